/-
  culvertlaw's 'Code' and 'Stream' at a violation.
-/
import Derived.Test.YtbbldkldgjmmgaaGreatDoorTAsViol
import Derived.Test.YtbbldkldgjmmgaaGreatDoorBase
namespace Go.Proofs.YtbbldkldgjmmgaaGreatDoor
open Go.RowKit

/-- the value of a violation whose block is vb -/
abbrev vio (vb : Nat) : Value := .iface 94 (.pointer (some ⟨vb, 0, none⟩))

end Go.Proofs.YtbbldkldgjmmgaaGreatDoor
