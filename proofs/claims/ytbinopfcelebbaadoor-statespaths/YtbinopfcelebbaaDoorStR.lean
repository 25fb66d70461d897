/-
  the document's states: Next, Sends, Hears, Name, Play.
-/
import Derived.Test.YtbinopfcelebbaaDoorStA
import Derived.Test.YtbinopfcelebbaaDoorRdI
namespace Go.Proofs.YtbinopfcelebbaaDoor
open Go.RowKit

set_option maxHeartbeats 4000000 in
theorem rnext_in (s e : Int) (w : World) (hs : 0 ≤ s ∧ s < 8) (he : 0 ≤ e ∧ e < 7) : Calls Tryd.prog 21 #[.int .i64 s, .int .i64 e] w fun x w' => x = .returned (.tuple #[.int .i64 (nxS s e), .int .i64 (nxE s e)]) ∧ w' = w := by
  rcases eight hs.1 hs.2 with rfl | rfl | rfl | rfl | rfl | rfl | rfl | rfl <;> rcases seven he.1 he.2 with rfl | rfl | rfl | rfl | rfl | rfl | rfl
  all_goals
    clear hs he
    go_enter Tryd.func21, Tryd.ntmps21
    go_wp2
    go_ret2
    exact ⟨rfl, rfl⟩
theorem rnext_any (s e : Int) (w : World) : Calls Tryd.prog 21 #[.int .i64 s, .int .i64 e] w fun x w' => x = .returned (.tuple #[.int .i64 (nxS s e), .int .i64 (nxE s e)]) ∧ w' = w := by
  by_cases hr : 0 ≤ s ∧ s < 8 ∧ 0 ≤ e ∧ e < 7
  · exact rnext_in s e w ⟨hr.1, hr.2.1⟩ ⟨hr.2.2.1, hr.2.2.2⟩
  · rw [show nxS s e = 0 from if_neg hr, show nxE s e = 2 from if_neg hr]
    have h' : s < 0 ∨ (¬ s < 0 ∧ s > 7) ∨ (¬ s < 0 ∧ ¬ s > 7 ∧ e < 0) ∨ (¬ s < 0 ∧ ¬ s > 7 ∧ ¬ e < 0 ∧ e > 6) := by omega
    clear hr
    rcases h' with h | ⟨h1, h⟩ | ⟨h1, h2, h⟩ | ⟨h1, h2, h3, h⟩
    all_goals
      go_enter Tryd.func21, Tryd.ntmps21
      go_wp2
      go_ret2
      exact ⟨rfl, rfl⟩
theorem rsends_any (s : Int) (w : World) : Calls Tryd.prog 22 #[.int .i64 s] w fun x w' => x = .returned (.bool (mayGo s)) ∧ w' = w := by
  by_cases hs : 0 ≤ s ∧ s < 8
  · rcases eight hs.1 hs.2 with rfl | rfl | rfl | rfl | rfl | rfl | rfl | rfl
    all_goals
      clear hs
      go_enter Tryd.func22, Tryd.ntmps22
      go_wp2
      go_ret
      exact ⟨rfl, rfl⟩
  · have e : mayGo s = false := by simp only [mayGo, Bool.or_eq_false_iff, beq_eq_false_iff_ne]; omega
    rw [e]
    have h1 : (s == 1) = false := by simp only [beq_eq_false_iff_ne]; omega
    have h2 : (s == 2) = false := by simp only [beq_eq_false_iff_ne]; omega
    have h3 : (s == 3) = false := by simp only [beq_eq_false_iff_ne]; omega
    have h5 : (s == 5) = false := by simp only [beq_eq_false_iff_ne]; omega
    clear hs e
    go_enter Tryd.func22, Tryd.ntmps22
    go_wp2
    go_ret
    exact ⟨rfl, rfl⟩
theorem rhears_any (s : Int) (w : World) : Calls Tryd.prog 23 #[.int .i64 s] w fun x w' => x = .returned (.bool (mayCome s)) ∧ w' = w := by
  by_cases hs : 0 ≤ s ∧ s < 8
  · rcases eight hs.1 hs.2 with rfl | rfl | rfl | rfl | rfl | rfl | rfl | rfl
    all_goals
      clear hs
      go_enter Tryd.func23, Tryd.ntmps23
      go_wp2
      go_ret
      exact ⟨rfl, rfl⟩
  · have e : mayCome s = false := by simp only [mayCome, Bool.or_eq_false_iff, beq_eq_false_iff_ne]; omega
    rw [e]
    have h1 : (s == 1) = false := by simp only [beq_eq_false_iff_ne]; omega
    have h2 : (s == 2) = false := by simp only [beq_eq_false_iff_ne]; omega
    have h3 : (s == 3) = false := by simp only [beq_eq_false_iff_ne]; omega
    have h5 : (s == 4) = false := by simp only [beq_eq_false_iff_ne]; omega
    clear hs e
    go_enter Tryd.func23, Tryd.ntmps23
    go_wp2
    go_ret
    exact ⟨rfl, rfl⟩
end Go.Proofs.YtbinopfcelebbaaDoor
