/-
  package num: Bytes16, Bytes32.
-/
import Derived.Test.YtmlcgmmpmdllcaaDoorCode
import Derived.Test.YtmlcgmmpmdllcaaDoorBase
import Derived.WalkLawsBesides
import Derived.WalkSpells
namespace Go.Proofs.YtmlcgmmpmdllcaaDoor
open Go.RowKit

theorem u8size : (Tryd.prog.info? 5).map (·.size) = some 1 := by kernel_rfl

end Go.Proofs.YtmlcgmmpmdllcaaDoor
