/-
  DERIVED. GIVEN WITH THE SEED: THE CARDS: each row of YtbbldkldgjmmgaaGreatDoorRows.lean that lists a variable, with what it lists TIED to the program's text (the seventh form; the later family's looks); each row that meets fmt, with fmt's text TOLD by the authors' own Lean function (tested against real Go, not proved from fmt's source: count such statements apart). THE CARD IS WHAT COUNTS. Prove the row's statement (the work); the ties are given (YtbbldkldgjmmgaaGreatDoorTie.lean); close each card by the builder's one call (the guide's Derived/Test/ToyasCard.lean, 'card_holds'). Laid BY PROGRAM, IN A SANDBOX (cutbox-door.mjs). By AI agents, Wed Nov 11 2026. No macro, syntax, notation, axiom, sorry.
-/
import Derived.Test.YtbbldkldgjmmgaaGreatDoorRows
import GoSem.ClaimSeven
namespace Go.Proofs.YtbbldkldgjmmgaaGreatDoor
namespace Rows

/-- THE TIED CARD OF 'culvertlaw26.TapAgain'. -/
def tapAgainCard : Claim7 := { stood := { row := tapAgainRow, standIns := [], harness := (true, "113856503d9bf240a369fb9f605697c53129dbe83fc74e0d18732b92b6127314"), looks := true }, kinds := [], alts := [], laidByText := true, laidKinds := [.data, .data, .data, .data, .handle, .sentinel, .sentinel, .sentinel, .sentinel, .sentinel, .sentinel, .sentinel, .sentinel, .sentinel, .sentinel, .sentinel, .sentinel, .data, .data, .data, .pinned], laidTests := true, laidLooks := .later }
def TapAgainCardSaid : Prop := Claim7.holds Tryz.pinned (.plain (OpenSpec.ofChange tapAgainSpec)) tapAgainCard

/-- THE SECOND FORM's CARD OF 'culvertlaw26.TapAgain'. -/
def tapAgainUptoCard : Claim7 := { stood := { row := tapAgainUptoRow, standIns := [], harness := (true, "113856503d9bf240a369fb9f605697c53129dbe83fc74e0d18732b92b6127314"), looks := true }, kinds := [], alts := [], laidByText := true, laidKinds := [.data, .data, .data, .data, .handle, .sentinel, .sentinel, .sentinel, .sentinel, .sentinel, .sentinel, .sentinel, .sentinel, .sentinel, .sentinel, .sentinel, .sentinel, .data, .data, .data, .pinned], laidTests := true, laidLooks := .later }
def TapAgainUptoCardSaid : Prop := Claim7.holds Tryz.pinned (.plain (OpenSpec.upto tapAgainSpec)) tapAgainUptoCard
end Rows
end Go.Proofs.YtbbldkldgjmmgaaGreatDoor
