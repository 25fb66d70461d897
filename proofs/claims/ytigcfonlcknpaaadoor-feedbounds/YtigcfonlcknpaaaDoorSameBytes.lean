/-
  the document's SameBytes
-/
import Derived.Test.YtigcfonlcknpaaaDoorLists
import Derived.Test.YtigcfonlcknpaaaDoorChecked
import Derived.WalkLawsBesides
namespace Go.Proofs.YtigcfonlcknpaaaDoor
open Go.RowKit
end Go.Proofs.YtigcfonlcknpaaaDoor
