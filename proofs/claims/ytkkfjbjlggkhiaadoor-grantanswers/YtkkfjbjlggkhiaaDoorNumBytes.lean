/-
  package num: Bytes16, Bytes32.
-/
import Derived.Test.YtkkfjbjlggkhiaaDoorCode
import Derived.Test.YtkkfjbjlggkhiaaDoorMem
import Derived.WalkLawsBesides
import Derived.WalkSpells
namespace Go.Proofs.YtkkfjbjlggkhiaaDoor
open Go.RowKit

theorem u8size : (Tryd.prog.info? 5).map (·.size) = some 1 := by kernel_rfl

end Go.Proofs.YtkkfjbjlggkhiaaDoor
