/-
  culvertlaw05.FeedMemory: where there is no decoder; the whole
-/
import Derived.Test.YtjhjhmhhnifgmaaDoorFmD
namespace Go.Proofs.YtjhjhmhhnifgmaaDoor
open Go.RowKit

set_option maxRecDepth 20000 in
set_option maxHeartbeats 4000000 in
theorem feedMemory_bad {A : Nat → Addr} (most : Int) (s : Value) (w : World) (B0 : Base A w) (hs : ∃ a n c, s = .slice a n c) (hbad : most < 1 ∨ 65536 < most) :
    Calls Tryd.prog 3 #[.int .i64 most, s] w fun e w' => e = .returned (.bool true) ∧ Below w.heap.size w w' := by
  obtain ⟨a, n, c, rfl⟩ := hs
  have FX := Aside.mk (fixed5 B0)
  have HB0 := Aside.mk B0
  have HBAD := Aside.mk hbad
  clear B0 hbad
  go_enter Tryd.func3, Tryd.ntmps3
  go_upto_region 3 with (go_at_call 4; refine FX.it.mono ?_; clear FX; rintro e w1 ⟨rfl, hb1⟩)
  have K1 : Aside (Keeps Nowhere w w1) := ⟨Keeps.ofBelow hb1⟩
  clear hb1
  have NB := Aside.mk (new_bad most w1 (HB0.it.s.later K1.it.bel) HBAD.it)
  go_upto_region 4 with (first | (go_at_call 5; refine NB.it.mono ?_; clear NB; rintro e w2 ⟨rfl, h2⟩; have K2 : Aside (Keeps Nowhere w w2) := (by obtain ⟨n2, rfl⟩ := h2; exact ⟨K1.it.trans (drewN_keeps w1 n2)⟩); clear h2) | fail)
  have RN := Aside.mk (refNew_bad (w := w2) HBAD.it)
  go_upto_region 5 with (first | (go_at_call 6; refine RN.it.mono ?_; clear RN; rintro e w3 ⟨rfl, B3⟩) | fail)
  have K3 : Aside (Keeps Nowhere w (w3.alloc (.cells #[.int .i64 0, .slice none 0 0] 31))) := ⟨(K2.it.trans (Keeps.ofBelow B3.it)).alloc _⟩
  generalize (w3.alloc (.cells #[.int .i64 0, .slice none 0 0] 31)) = W4 at K3 ⊢
  clear K1 K2 B3
  go_upto_region 6 with fail
  by_cases h1 : most < 1
  · have d1 : decide (most < 1) = true := decide_eq_true h1
    go_wp2_with fail
    go_ret
    exact ⟨rfl, K3.it.bel⟩
  · have h2 : 65536 < most := by have := HBAD.it; omega
    have d1 : decide (most < 1) = false := decide_eq_false h1
    have d2 : decide (65536 < most) = true := decide_eq_true h2
    go_wp2_with fail
    go_ret
    exact ⟨rfl, K3.it.bel⟩
theorem feedMemory_walkU {A : Nat → Addr} (most : Int) (s : Value) (zs : List PcV) (w : World) (B0 : Base A w) (hz : PiecesArg w s zs) :
    Calls Tryd.prog 3 #[.int .i64 most, s] w fun e w' => e = .returned (.bool true) ∧ Below w.heap.size w w' := by
  by_cases h : 1 ≤ most ∧ most ≤ 65536
  · exact feedMemory_good most s zs w B0 hz h.1 h.2
  · obtain ⟨_, _, a, c, e, _⟩ := hz
    exact feedMemory_bad most s w B0 ⟨_, _, _, e⟩ (by omega)
end Go.Proofs.YtjhjhmhhnifgmaaDoor
