/-
  the document's SameBytes
-/
import Derived.Test.YtjhjhmhhnifgmaaDoorLists
import Derived.Test.YtjhjhmhhnifgmaaDoorChecked
import Derived.WalkLawsBesides
namespace Go.Proofs.YtjhjhmhhnifgmaaDoor
open Go.RowKit
end Go.Proofs.YtjhjhmhhnifgmaaDoor
