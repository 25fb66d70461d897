/-
  The laws of layer 4: awake; FrameChecks.
-/
import Derived.Test.YtfpdllckpcjgdaaDoorFrameB
import Derived.Test.YtfpdllckpcjgdaaDoorFrameC
namespace Go.Proofs.YtfpdllckpcjgdaaDoor
open Go.RowKit

theorem strEnc : strOf (enc 0 1 1 1 262144) = ⟨#[0, 1, 0, 1, 0, 0, 0, 1, 0, 4, 0, 0]⟩ := by kernel_rfl
set_option maxHeartbeats 2000000 in
theorem awake4 {A : Nat → Addr} (w : World) (hs : Sents 107 codeVars A w) (hL : Lawful w) :
    Calls Tryd.prog 4 #[] w fun e w' => e = .returned (.bool true) ∧ Below w.heap.size w w' := by
  have hE := encode_any 0 1 1 1 262144 w (by decide) (by decide) (by decide) (by decide) (by decide) (by decide)
  have hC : ∀ w, Sents 107 codeVars A w → Lawful w → _ := fun w a b => check_any (A := A) 1 0 0 0 0 9 w a b (by decide) (by decide) (by decide) (by decide) (by decide)
  have hs' := Aside.mk hs
  have hL' := Aside.mk hL
  have E := Aside.mk hE
  have C := Aside.mk hC
  clear hs hL hE hC
  go_enter Tryd.func4, Tryd.ntmps4
  go_wp2_with (first
    | (go_at_call 6; refine E.it.mono ?_; rintro e w1 ⟨x1, rfl, O1, K1⟩; have S1 := Aside.mk (hs'.it.later K1); have L1 := Aside.mk (hL'.it.later K1); have B1 := Aside.mk K1; clear K1)
    | (go_at_call 10; refine (C.it _ S1.it L1.it).mono ?_; rintro e w2 ⟨⟨ev, rfl, hev⟩, K2⟩; have S2 := Aside.mk (S1.it.later K2); have V := Aside.mk hev; have B2 := Aside.mk (B1.it.trans (K2.mono B1.it.size)); have c1 := run_bytesStr (P := Tryd.prog) w2 26 9 5 x1 _ Tryd.underlying26 Tryd.underlying5 Tryd.underlying9 (O1.it.later K2).holds; rw [strEnc] at c1; clear K2 hev)
    | (go_at_call 11; refine (code_of S2.it V.it).mono ?_; rintro e w3 ⟨rfl, rfl⟩))
  go_ret
  refine ⟨?_, B2.it⟩
  rfl
end Go.Proofs.YtfpdllckpcjgdaaDoor
