/-
  culvertlaw's 'Code' and 'Stream' at a violation.
-/
import Derived.Test.YtjhkbkbofbjoeabGreatDoorTAsViol
import Derived.Test.YtjhkbkbofbjoeabGreatDoorBase
namespace Go.Proofs.YtjhkbkbofbjoeabGreatDoor
open Go.RowKit

/-- the value of a violation whose block is vb -/
abbrev vio (vb : Nat) : Value := .iface 97 (.pointer (some ⟨vb, 0, none⟩))

end Go.Proofs.YtjhkbkbofbjoeabGreatDoor
