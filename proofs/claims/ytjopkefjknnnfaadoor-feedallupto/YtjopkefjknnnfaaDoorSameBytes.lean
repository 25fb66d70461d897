/-
  the document's SameBytes
-/
import Derived.Test.YtjopkefjknnnfaaDoorLists
import Derived.Test.YtjopkefjknnnfaaDoorChecked
import Derived.WalkLawsBesides
namespace Go.Proofs.YtjopkefjknnnfaaDoor
open Go.RowKit
end Go.Proofs.YtjopkefjknnnfaaDoor
