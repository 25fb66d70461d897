/-
  the document's SameBytes
-/
import Derived.Test.YtccbhmmonaaikaaDoorLists
import Derived.Test.YtccbhmmonaaikaaDoorChecked
import Derived.WalkLawsBesides
namespace Go.Proofs.YtccbhmmonaaikaaDoor
open Go.RowKit
end Go.Proofs.YtccbhmmonaaikaaDoor
