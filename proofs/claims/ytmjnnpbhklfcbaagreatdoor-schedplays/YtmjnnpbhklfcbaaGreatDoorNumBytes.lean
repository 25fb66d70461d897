/-
  package num: Bytes16, Bytes32.
-/
import Derived.Test.YtmjnnpbhklfcbaaGreatDoorCode
import Derived.Test.YtmjnnpbhklfcbaaGreatDoorBase
import Derived.WalkLawsBesides
import Derived.WalkSpells
namespace Go.Proofs.YtmjnnpbhklfcbaaGreatDoor
open Go.RowKit

theorem u8size : (Tryz.prog.info? 5).map (·.size) = some 1 := by kernel_rfl

end Go.Proofs.YtmjnnpbhklfcbaaGreatDoor
