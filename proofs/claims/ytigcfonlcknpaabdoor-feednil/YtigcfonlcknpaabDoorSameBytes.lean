/-
  the document's SameBytes
-/
import Derived.Test.YtigcfonlcknpaabDoorLists
import Derived.Test.YtigcfonlcknpaabDoorChecked
import Derived.WalkLawsBesides
namespace Go.Proofs.YtigcfonlcknpaabDoor
open Go.RowKit
end Go.Proofs.YtigcfonlcknpaabDoor
