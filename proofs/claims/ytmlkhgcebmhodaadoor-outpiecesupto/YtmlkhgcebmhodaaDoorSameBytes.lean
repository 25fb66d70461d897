/-
  the document's SameBytes
-/
import Derived.Test.YtmlkhgcebmhodaaDoorLists
import Derived.Test.YtmlkhgcebmhodaaDoorChecked
import Derived.WalkLawsBesides
namespace Go.Proofs.YtmlkhgcebmhodaaDoor
open Go.RowKit
end Go.Proofs.YtmlkhgcebmhodaaDoor
