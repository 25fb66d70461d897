/-
  the document's SameBytes
-/
import Derived.Test.YtlooiikddachdaaDoorLists
import Derived.Test.YtlooiikddachdaaDoorChecked
import Derived.WalkLawsBesides
namespace Go.Proofs.YtlooiikddachdaaDoor
open Go.RowKit
end Go.Proofs.YtlooiikddachdaaDoor
