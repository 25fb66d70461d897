/-
  FrameBack: what Encode wrote, Decode reads
-/
import Derived.Test.YtbbldkldgjmmgaaGreatDoorTFrameG
import Derived.Test.YtbbldkldgjmmgaaGreatDoorTFrameH
namespace Go.Proofs.YtbbldkldgjmmgaaGreatDoor
open Go.RowKit

theorem dec_enc (v t f s l : Int) :
    dV (enc v t f s l) = v ∧ dT (enc v t f s l) = t ∧ dF (enc v t f s l) = f ∧ dS (enc v t f s l) = s ∧ dL (enc v t f s l) = l := by
  have h12 : 12 ≤ (enc v t f s l).length := by rw [enc_length]; exact Nat.le_refl _
  rw [dF_eq _ h12, dS_eq _ h12, dL_eq _ h12]
  unfold dV dT
  rw [if_neg (by omega), if_neg (by omega)]
  refine ⟨rfl, rfl, ?_, ?_, ?_⟩
  · simp [enc, be2, be4]; omega
  · simp [enc, be2, be4]; omega
  · simp [enc, be2, be4]; omega
end Go.Proofs.YtbbldkldgjmmgaaGreatDoor
