/-
  the document's SameBytes
-/
import Derived.Test.YtfphoaphdfhhiaaDoorLists
import Derived.Test.YtfphoaphdfhhiaaDoorChecked
import Derived.WalkLawsBesides
namespace Go.Proofs.YtfphoaphdfhhiaaDoor
open Go.RowKit
end Go.Proofs.YtfphoaphdfhhiaaDoor
