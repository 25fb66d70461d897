/-
  StatesTable, StatesNext, walked.
-/
import Derived.Test.YtbinopfcelebbaaDoorStC
namespace Go.Proofs.YtbinopfcelebbaaDoor
open Go.RowKit

section
variable {w w' : World} {A : Nat → Addr}
theorem wakes_n (h : Aside (St9N A w)) : Calls Tryd.prog 9 #[] w fun e w' => e = .returned (.bool true) ∧ Aside (Keeps Nowhere w w') ∧ Aside (St9N A w') :=
  (wakes9 h.it.st).mono (by rintro e w' ⟨rfl, k⟩; exact ⟨rfl, k, ⟨h.it.quiet k.it⟩⟩)
theorem next_n (s e : Int) (h : Aside (St9N A w)) : Calls Tryd.prog 10 #[.int .i64 s, .int .i64 e] w fun e w' => e = .returned (.bool true) ∧ Aside (Keeps Nowhere w w') ∧ Aside (St9N A w') :=
  (next9 s e h.it.st).mono (by rintro e w' ⟨rfl, k⟩; exact ⟨rfl, k, ⟨h.it.quiet k.it⟩⟩)
theorem asked_n (s : Int) (h : Aside (St9N A w)) : Calls Tryd.prog 11 #[.int .i64 s] w fun e w' => e = .returned (.bool true) ∧ w' = w := asked9 s h.it.st h.it.nm
theorem statesNext_walk {A : Nat → Addr} (s e : Int) (w : World) (hs : St9N A w) : Calls Tryd.prog 4 #[.int .i64 s, .int .i64 e] w fun e w' => e = .returned (.bool true) ∧ Below w.heap.size w w' := by
  have H := Aside.mk hs
  clear hs
  go_enter Tryd.func4, Tryd.ntmps4
  go_wp2_with (first
    | (go_at_call 9; refine (wakes_n H).mono ?_; rintro x w1 ⟨rfl, K1, H1⟩)
    | (go_at_call 10; refine (next_n s e H1).mono ?_; rintro x w2 ⟨rfl, K2, H2⟩)
    | (go_at_call 11; refine (asked_n s H2).mono ?_; rintro x w3 ⟨rfl, rfl⟩)
    | fail)
  go_ret
  exact ⟨rfl, (K1.it.trans K2.it).bel⟩
set_option maxHeartbeats 4000000 in
theorem statesTable_walk {A : Nat → Addr} (w : World) (hs : St9N A w) : Calls Tryd.prog 3 #[] w fun e w' => e = .returned (.bool true) ∧ Below w.heap.size w w' := by
  have H := Aside.mk hs
  clear hs
  go_enter Tryd.func3, Tryd.ntmps3
  go_upto_region 4 with (first | (go_at_call 9; refine (wakes_n H).mono ?_; rintro x w1 ⟨rfl, K1, H1⟩) | fail)
  clear H
  go_loopw [1] (fun x wr => ∃ s : Int, x = .int .i64 s ∧ -1 ≤ s ∧ s ≤ 9 ∧ Aside (Keeps Nowhere w wr) ∧ Aside (St9N A wr)) (fun x _ => (9 - intOf x).toNat)
  case atStart => exact ⟨-1, rfl, by decide, by decide, K1, H1⟩
  case round =>
    obtain ⟨s, rfl, s0, s1, K2, H2⟩ := hrel
    clear K1 H1
    by_cases hs : s ≤ 8
    · go_upto_region 7 with fail
      go_loopw [2] (fun y wq => ∃ e : Int, y = .int .i64 e ∧ -1 ≤ e ∧ e ≤ 8 ∧ Aside (Keeps Nowhere w wq) ∧ Aside (St9N A wq)) (fun y _ => (8 - intOf y).toNat)
      case atStart => exact ⟨-1, rfl, by decide, by decide, K2, H2⟩
      case round =>
        obtain ⟨e, rfl, e0, e1, K3, H3⟩ := hrel
        clear K2 H2
        by_cases he : e ≤ 7
        · go_wp2_with (first | (go_at_call 10; refine (next_n s e H3).mono ?_; rintro x w4 ⟨rfl, K4, H4⟩) | fail)
          go_roundw
          case rel => exact ⟨e + 1, by go_num, by omega, by omega, ⟨K3.it.trans K4.it⟩, H4⟩
          case measure => simp [intOf]; omega
        · go_wp2_with (first | (go_at_call 11; refine (asked_n s H3).mono ?_; rintro x w4 ⟨rfl, rfl⟩) | fail)
          go_roundw
          case rel => exact ⟨s + 1, by go_num, by omega, by omega, K3, H3⟩
          case measure => simp [intOf]; omega
    · go_wp2
      go_ret
      exact ⟨rfl, K2.it.bel⟩
end
end Go.Proofs.YtbinopfcelebbaaDoor
