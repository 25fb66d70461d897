/-
  culvertlaw27.MsgMemory: where there is no reader; the whole
-/
import Derived.Test.YtnocalkloinbbaaDoorMiC
namespace Go.Proofs.YtnocalkloinbbaaDoor
open Go.RowKit

set_option maxRecDepth 20000 in
set_option maxHeartbeats 4000000 in
theorem msgMemory_bad {A : Nat → Addr} {w : World} (most : Int) (hm : most < 0 ∨ 1048576 < most) (v : Value) (hv : ∃ a n c, v = .slice a n c) (hs : Sents 74 codeVars A w) :
    Calls Tryd.prog 3 #[.int .i64 most, v] w fun e w' => e = .returned (.bool true) ∧ Below w.heap.size w w' := by
  obtain ⟨a, n, c, rfl⟩ := hv
  have F := Aside.mk (fixed27 hs)
  have HS := Aside.mk hs
  have HMo := Aside.mk hm
  clear hs hm
  go_enter Tryd.func3, Tryd.ntmps3
  go_upto_region 3 with (first | (go_at_call 4; refine F.it.mono ?_; clear F; rintro e w1 ⟨rfl, B1⟩) | fail)
  have NW := Aside.mk (newM_no (A := A) HMo.it (HS.it.later B1.it))
  go_upto_region 4 with (first | (go_at_call 5; refine NW.it.mono ?_; clear NW; rintro e w2 ⟨rfl, K2⟩) | fail)
  have ND := Aside.mk (refNew27_bad (w := w2) HMo.it)
  go_upto_region 5 with (first | (go_at_call 6; refine ND.it.mono ?_; clear ND; rintro e w3 ⟨rfl, B3⟩) | fail)
  have K3 : Keeps Nowhere w2 w3 := Keeps.ofBelow B3.it
  have KA : Keeps Nowhere w3 (w3.alloc (.cells #[.int .i64 (-1), .slice none 0 0] 31)) := (Keeps.refl _ _).alloc _
  have BW : Aside (Below w.heap.size w (w3.alloc (.cells #[.int .i64 (-1), .slice none 0 0] 31))) := ⟨B1.it.trans (((K2.it.trans K3).trans KA).bel.mono B1.it.size)⟩
  clear K2 B3 K3 KA
  generalize w3.alloc (.cells #[.int .i64 (-1), .slice none 0 0] 31) = w4 at BW ⊢
  generalize w3.heap.size = mb at ⊢
  go_upto_region 6 with fail
  by_cases h1 : most < 0
  · have d1 : decide (most < 0) = true := decide_eq_true h1
    go_wp2_with fail
    go_ret
    exact ⟨rfl, BW.it⟩
  · have h2 : 1048576 < most := by have := HMo.it; omega
    have d1 : decide (most < 0) = false := decide_eq_false h1
    have d2 : decide (1048576 < most) = true := decide_eq_true h2
    go_wp2_with fail
    go_ret
    exact ⟨rfl, BW.it⟩
theorem msgMemory_walkU {A : Nat → Addr} (most : Int) (v : Value) (zs : List PcV) (w : World) (hs : Sents 74 codeVars A w) (hz : PiecesArg w v zs) :
    Calls Tryd.prog 3 #[.int .i64 most, v] w fun e w' => e = .returned (.bool true) ∧ Below w.heap.size w w' := by
  by_cases h : most < 0 ∨ 1048576 < most
  · obtain ⟨_, _, a, c, e, _⟩ := hz
    exact msgMemory_bad most h v ⟨_, _, _, e⟩ hs
  · obtain ⟨m, rfl⟩ : ∃ m : Nat, most = m := ⟨most.toNat, by omega⟩
    exact msgMemory_good (by omega) v zs hs hz
end Go.Proofs.YtnocalkloinbbaaDoor
