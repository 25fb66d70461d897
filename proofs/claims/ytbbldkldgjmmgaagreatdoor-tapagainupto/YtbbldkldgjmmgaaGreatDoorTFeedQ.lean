/-
  A header's bytes, there and back: lists alone.
-/
import Derived.Test.YtbbldkldgjmmgaaGreatDoorFd1
namespace Go.Proofs.YtbbldkldgjmmgaaGreatDoor

theorem list12 {α : Type} {l : List α} (h : l.length = 12) : ∃ a0 a1 a2 a3 a4 a5 a6 a7 a8 a9 a10 a11, l = [a0, a1, a2, a3, a4, a5, a6, a7, a8, a9, a10, a11] := by
  match l, h with
  | [a0, a1, a2, a3, a4, a5, a6, a7, a8, a9, a10, a11], _ => exact ⟨a0, a1, a2, a3, a4, a5, a6, a7, a8, a9, a10, a11, rfl⟩
theorem enc_dec (h : List Int) (hh : h.length = 12) (hb : AreBytes h) : enc (dV h) (dT h) (dF h) (dS h) (dL h) = h := by
  rw [dF_eq h (by omega), dS_eq h (by omega), dL_eq h (by omega)]
  unfold dV dT
  rw [if_neg (by omega), if_neg (by omega)]
  obtain ⟨a0, a1, a2, a3, a4, a5, a6, a7, a8, a9, a10, a11, rfl⟩ := list12 hh
  have b0 := hb a2 (by simp); have b1 := hb a3 (by simp); have b2 := hb a4 (by simp); have b3 := hb a5 (by simp); have b4 := hb a6 (by simp)
  have b5 := hb a7 (by simp); have b6 := hb a8 (by simp); have b7 := hb a9 (by simp); have b8 := hb a10 (by simp); have b9 := hb a11 (by simp)
  simp [enc, be2, be4]
  omega
/-- a header with something behind it -/
theorem gX_app (n : Nat) (a t : List Int) (h : n ≤ a.length) : gX n (a ++ t) = gX n a := by
  unfold gX
  rw [if_neg (by simp; omega), if_neg (by omega), List.take_append_of_le_length h]
theorem d_app (h t : List Int) (hh : h.length = 12) : dV (h ++ t) = dV h ∧ dT (h ++ t) = dT h ∧ dF (h ++ t) = dF h ∧ dS (h ++ t) = dS h ∧ dL (h ++ t) = dL h ∧ dE (h ++ t) = 0 := by
  have hl : ¬ (h ++ t).length < 12 := by simp; omega
  have hl' : ¬ h.length < 12 := by omega
  unfold dV dT dF dS dL dE
  rw [if_neg hl, if_neg hl, if_neg hl, if_neg hl, if_neg hl, if_neg hl, if_neg hl', if_neg hl', if_neg hl', if_neg hl', if_neg hl']
  refine ⟨?_, ?_, ?_, ?_, ?_, rfl⟩
  · obtain ⟨a0, a1, a2, a3, a4, a5, a6, a7, a8, a9, a10, a11, rfl⟩ := list12 hh; rfl
  · obtain ⟨a0, a1, a2, a3, a4, a5, a6, a7, a8, a9, a10, a11, rfl⟩ := list12 hh; rfl
  · rw [List.drop_append_of_le_length (by omega), gX_app _ _ _ (by simp; omega)]
  · rw [List.drop_append_of_le_length (by omega), gX_app _ _ _ (by simp; omega)]
  · rw [List.drop_append_of_le_length (by omega), gX_app _ _ _ (by simp; omega)]
end Go.Proofs.YtbbldkldgjmmgaaGreatDoor
