/-
  culvertlaw17.PingsNames
-/
import Derived.Test.YtnmpnajmhfonhaaDoorPgD
namespace Go.Proofs.YtnmpnajmhfonhaaDoor
open Go.RowKit

set_option maxHeartbeats 2000000 in
theorem pingsNames_walk {A : Nat → Addr} (w : World) (hs : Sents 124 codeVars A w) :
    Calls Tryd.prog 3 #[] w fun e w' => e = .returned (.bool true) ∧ Below w.heap.size w w' := by
  have HS := Aside.mk hs
  have N1 := Aside.mk (pnew_no 0 w _ (hs.cell 1 _ rfl) (.inl (by decide)))
  clear hs
  go_enter Tryd.func3, Tryd.ntmps3
  go_upto_region 2 with (go_at_call 8; refine N1.it.mono ?_; clear N1; rintro e w1 ⟨rfl, K1⟩)
  have N2 := Aside.mk (pnew_no 1025 w1 _ ((HS.it.later K1.it.bel).cell 1 _ rfl) (.inr (by decide)))
  go_upto_region 3 with (first | (go_at_call 8; refine N2.it.mono ?_; clear N2; rintro e w2 ⟨rfl, K2⟩) | fail)
  have N3 := Aside.mk (pnew_ok 1024 (by decide) (by decide) w2 (fun _ => 0) 1 1)
  go_upto_region 4 with (first | (go_at_call 8; refine N3.it.mono ?_; clear N3; rintro e w3 ⟨p, rfl, T3, _, K3⟩) | fail)
  have S3 := Aside.mk (HS.it.later ((K1.it.trans K2.it).trans K3.it).bel)
  have CD := Aside.mk (code_of S3.it (Coded.mk 1 2 (by decide) (by decide) rfl))
  have V3 : Aside (PgV (give (fun _ => 0) w2.heap.size 1) 1 1 w3 (ptr p) (Pm.new 1024)) := ⟨.inr ⟨p, rfl, T3.it⟩⟩
  clear T3
  go_upto_region 5 with (first | (go_at_call 9; refine CD.it.mono ?_; rintro e w4 ⟨rfl, hw⟩; subst hw) | fail)
  have O := Aside.mk (powed V3.it)
  have hO : (Pm.new 1024).ow.length = 0 := by decide
  have hL : (Pm.new 1024).L.length = 0 := by decide
  rw [hO] at O
  clear CD
  go_wp2_with (first
    | (go_at_call 10; refine O.it.mono ?_; clear O; rintro e w5 ⟨rfl, K5⟩; have Wt := Aside.mk (pwait (V3.it.quiet K5.it)); rw [hL] at Wt)
    | (go_at_call 11; refine Wt.it.mono ?_; clear Wt; rintro e w6 ⟨a6, c6, rfl, R6, K6⟩)
    | fail)
  go_ret
  exact ⟨rfl, ((((K1.it.trans K2.it).trans K3.it).trans K5.it).trans K6.it).bel⟩
end Go.Proofs.YtnmpnajmhfonhaaDoor
