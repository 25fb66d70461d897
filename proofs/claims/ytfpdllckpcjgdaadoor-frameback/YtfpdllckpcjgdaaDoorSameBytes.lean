/-
  the document's SameBytes
-/
import Derived.Test.YtfpdllckpcjgdaaDoorLists
import Derived.Test.YtfpdllckpcjgdaaDoorChecked
import Derived.WalkLawsBesides
namespace Go.Proofs.YtfpdllckpcjgdaaDoor
open Go.RowKit
end Go.Proofs.YtfpdllckpcjgdaaDoor
