/-
  the document's SameBytes
-/
import Derived.Test.YtfdfibajlggeeaaDoorLists
import Derived.Test.YtfdfibajlggeeaaDoorChecked
import Derived.WalkLawsBesides
namespace Go.Proofs.YtfdfibajlggeeaaDoor
open Go.RowKit
end Go.Proofs.YtfdfibajlggeeaaDoor
