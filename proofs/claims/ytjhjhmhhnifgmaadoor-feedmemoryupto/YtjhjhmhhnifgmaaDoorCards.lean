/-
  DERIVED. GIVEN WITH THE SEED: THE CARDS: each row of YtjhjhmhhnifgmaaDoorRows.lean that lists a variable, with what it lists TIED to the program's text (the seventh form; the later family's looks); each row that meets fmt, with fmt's text TOLD by the authors' own Lean function (tested against real Go, not proved from fmt's source: count such statements apart). THE CARD IS WHAT COUNTS. Prove the row's statement (the work); the ties are given (YtjhjhmhhnifgmaaDoorTie.lean); close each card by the builder's one call (the guide's Derived/Test/ToyasCard.lean, 'card_holds'). Laid BY PROGRAM, IN A SANDBOX (cutbox-door.mjs). By AI agents, Wed Nov 11 2026. No macro, syntax, notation, axiom, sorry.
-/
import Derived.Test.YtjhjhmhhnifgmaaDoorRows
import GoSem.ClaimSeven
namespace Go.Proofs.YtjhjhmhhnifgmaaDoor
namespace Rows

/-- THE TIED CARD OF 'culvertlaw05.FeedMemory'. -/
def feedMemoryCard : Claim7 := { stood := { row := feedMemoryRow, standIns := [], harness := (true, "5bef801d21fc7a5ebc48ae4fb97bc49d0c9fe6c6a803ba19cbe02543694e1a79"), looks := true }, kinds := [], alts := [], laidByText := true, laidKinds := [.handle, .sentinel, .sentinel, .sentinel, .sentinel, .sentinel, .sentinel, .sentinel, .sentinel, .sentinel, .sentinel, .sentinel, .sentinel, .sentinel, .sentinel, .sentinel, .sentinel, .sentinel, .sentinel, .sentinel, .sentinel, .sentinel, .sentinel, .sentinel, .sentinel, .sentinel, .sentinel, .sentinel, .sentinel, .sentinel, .sentinel, .sentinel, .sentinel, .sentinel, .sentinel, .sentinel, .sentinel, .sentinel, .sentinel, .sentinel, .sentinel, .sentinel, .sentinel, .data], laidTests := true, laidLooks := .later }
def FeedMemoryCardSaid : Prop := Claim7.holds Tryd.pinned (.plain (OpenSpec.ofChange feedMemorySpec)) feedMemoryCard

/-- THE SECOND FORM's CARD OF 'culvertlaw05.FeedMemory'. -/
def feedMemoryUptoCard : Claim7 := { stood := { row := feedMemoryUptoRow, standIns := [], harness := (true, "5bef801d21fc7a5ebc48ae4fb97bc49d0c9fe6c6a803ba19cbe02543694e1a79"), looks := true }, kinds := [], alts := [], laidByText := true, laidKinds := [.handle, .sentinel, .sentinel, .sentinel, .sentinel, .sentinel, .sentinel, .sentinel, .sentinel, .sentinel, .sentinel, .sentinel, .sentinel, .sentinel, .sentinel, .sentinel, .sentinel, .sentinel, .sentinel, .sentinel, .sentinel, .sentinel, .sentinel, .sentinel, .sentinel, .sentinel, .sentinel, .sentinel, .sentinel, .sentinel, .sentinel, .sentinel, .sentinel, .sentinel, .sentinel, .sentinel, .sentinel, .sentinel, .sentinel, .sentinel, .sentinel, .sentinel, .sentinel, .data], laidTests := true, laidLooks := .later }
def FeedMemoryUptoCardSaid : Prop := Claim7.holds Tryd.pinned (.plain (OpenSpec.upto feedMemorySpec)) feedMemoryUptoCard
end Rows
end Go.Proofs.YtjhjhmhhnifgmaaDoor
