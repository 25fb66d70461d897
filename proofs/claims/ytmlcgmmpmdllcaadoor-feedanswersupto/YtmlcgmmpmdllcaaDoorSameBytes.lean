/-
  the document's SameBytes
-/
import Derived.Test.YtmlcgmmpmdllcaaDoorLists
import Derived.Test.YtmlcgmmpmdllcaaDoorChecked
import Derived.WalkLawsBesides
namespace Go.Proofs.YtmlcgmmpmdllcaaDoor
open Go.RowKit
end Go.Proofs.YtmlcgmmpmdllcaaDoor
