/-
  The laws of layer 4: awake; FrameChecks.
-/
import Derived.Test.YtbbldkldgjmmgaaGreatDoorTFrameB
import Derived.Test.YtbbldkldgjmmgaaGreatDoorTFrameC
namespace Go.Proofs.YtbbldkldgjmmgaaGreatDoor
open Go.RowKit

theorem strEnc : strOf (enc 0 1 1 1 262144) = ⟨#[0, 1, 0, 1, 0, 0, 0, 1, 0, 4, 0, 0]⟩ := by kernel_rfl
end Go.Proofs.YtbbldkldgjmmgaaGreatDoor
