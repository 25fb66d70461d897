/-
  culvertref11: May, Frame
-/
import Derived.Test.YtialmmobkmdfpaaDoorLnG
namespace Go.Proofs.YtialmmobkmdfpaaDoor
open Go.RowKit

variable {A : Nat → Addr} {w w' w0 : World}
theorem ret_int {a b : Int} (h : a = b) : Ending.returned (.int .i64 a) = Ending.returned (.int .i64 b) := by rw [h]

set_option maxHeartbeats 4000000 in
theorem mayR (t : Tk) : Calls Tryd.prog 44 #[tkv t.k t.s t.v] w fun e w' => e = .returned (.int .i64 (mayT t)) ∧ Keeps Nowhere w w' := by
  obtain ⟨k, s, v⟩ := t
  obtain ⟨W0, hW0⟩ : ∃ W0, W0 = w.alloc (tbox k s v) := ⟨_, rfl⟩
  have K0 : Aside (Keeps Nowhere w W0) := ⟨by rw [hW0]; exact (Keeps.refl _ _).alloc _⟩
  obtain ⟨b0, b1, b2⟩ : TB W0 w.heap.size k s v := by rw [hW0]; exact TB.of (tbox_new _ _ _ _)
  go_enter Tryd.func44, Tryd.ntmps44
  go_upto_region 1 with fail
  rw [← hW0]
  clear hW0
  by_cases hk : k < 1
  · go_wp2
    go_ret
    exact ⟨ret_int (by simp [mayT, hk]), K0.it⟩
  by_cases hk7 : 7 < k
  · go_wp2
    go_ret
    exact ⟨ret_int (by simp [mayT, hk7]), K0.it⟩
  have hr : k = 1 ∨ k = 2 ∨ k = 3 ∨ k = 4 ∨ k = 5 ∨ k = 6 ∨ k = 7 := by omega
  clear hk hk7
  by_cases hs : (s : Int) = 0
  case' pos =>
    rw [hs] at b1
  case' neg =>
    have hsa : ((s : Int) == 0) = false := by simpa using hs
  all_goals
    have HS := Aside.mk hs
    clear hs
    by_cases h0 : (v : Int) = 0
    case' pos =>
      rw [h0] at b2
    case' neg =>
      have e0 : ((v : Int) == 0) = false := by simpa using h0
      have e1 : ((v : Int) != 0) = true := by simpa using h0
    all_goals
      have H0 := Aside.mk h0
      clear h0
      by_cases h2 : (2 : Int) < v
      all_goals
        have H2 := Aside.mk h2
        rcases hr with rfl | rfl | rfl | rfl | rfl | rfl | rfl
        all_goals
          go_wp2
          go_ret
          exact ⟨ret_int (by have := HS.it; have := H0.it; have := H2.it; unfold mayT; simp only []; repeat' split
                             all_goals first | omega | (simp_all; done) | (simp_all; omega)), K0.it⟩
end Go.Proofs.YtialmmobkmdfpaaDoor
