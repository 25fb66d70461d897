/-
  package num: Bytes16, Bytes32.
-/
import Derived.Test.YtjhjhmhhnifgmaaDoorCode
import Derived.Test.YtjhjhmhhnifgmaaDoorBase
import Derived.WalkLawsBesides
import Derived.WalkSpells
namespace Go.Proofs.YtjhjhmhhnifgmaaDoor
open Go.RowKit

theorem u8size : (Tryd.prog.info? 5).map (·.size) = some 1 := by kernel_rfl

end Go.Proofs.YtjhjhmhhnifgmaaDoor
