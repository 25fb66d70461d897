/-
  package num: Bytes16, Bytes32.
-/
import Derived.Test.YtnohcbdnhpaafaaDoorCode
import Derived.Test.YtnohcbdnhpaafaaDoorBase
import Derived.WalkLawsBesides
import Derived.WalkSpells
namespace Go.Proofs.YtnohcbdnhpaafaaDoor
open Go.RowKit

theorem u8size : (Tryd.prog.info? 5).map (·.size) = some 1 := by kernel_rfl

end Go.Proofs.YtnohcbdnhpaafaaDoor
