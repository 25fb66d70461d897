/-
  layer 5's laws: 'gives', walked.
-/
import Derived.Test.YtjhjhmhhnifgmaaDoorGivesW
namespace Go.Proofs.YtjhjhmhhnifgmaaDoor
open Go.RowKit

section
variable {A : Nat → Addr} {own : Nat → Nat} {w w' : World} {p : Nat} {most : Int}
end
end Go.Proofs.YtjhjhmhhnifgmaaDoor
