/-
  DERIVED. GIVEN WITH THE SEED: THE CARDS: each row of YtnocalkloinbbaaDoorRows.lean that lists a variable, with what it lists TIED to the program's text (the seventh form; the later family's looks); each row that meets fmt, with fmt's text TOLD by the authors' own Lean function (tested against real Go, not proved from fmt's source: count such statements apart). THE CARD IS WHAT COUNTS. Prove the row's statement (the work); the ties are given (YtnocalkloinbbaaDoorTie.lean); close each card by the builder's one call (the guide's Derived/Test/ToyasCard.lean, 'card_holds'). Laid BY PROGRAM, IN A SANDBOX (cutbox-door.mjs). By AI agents, Wed Nov 11 2026. No macro, syntax, notation, axiom, sorry.
-/
import Derived.Test.YtnocalkloinbbaaDoorRows
import GoSem.ClaimSeven
namespace Go.Proofs.YtnocalkloinbbaaDoor
namespace Rows

/-- THE TIED CARD OF 'culvertlaw27.MsgMemory'. -/
def msgMemoryCard : Claim7 := { stood := { row := msgMemoryRow, standIns := [], harness := (true, "37139eed435a86a36fb2c7aaf7c04d33363a134d589e9ffbe49f1d250670c7a4"), looks := true }, kinds := [], alts := [], laidByText := true, laidKinds := [.sentinel, .sentinel, .sentinel, .sentinel, .sentinel, .sentinel, .sentinel, .sentinel, .sentinel, .sentinel, .sentinel, .sentinel, .sentinel, .sentinel, .sentinel, .sentinel, .sentinel, .sentinel, .sentinel, .sentinel, .sentinel, .sentinel, .sentinel, .sentinel, .sentinel, .sentinel, .sentinel, .sentinel, .sentinel, .sentinel, .sentinel, .sentinel, .sentinel, .sentinel, .sentinel, .sentinel, .sentinel, .sentinel, .sentinel, .sentinel, .sentinel, .sentinel], laidTests := true, laidLooks := .later }
def MsgMemoryCardSaid : Prop := Claim7.holds Tryd.pinned (.plain (OpenSpec.ofChange msgMemorySpec)) msgMemoryCard

/-- THE SECOND FORM's CARD OF 'culvertlaw27.MsgMemory'. -/
def msgMemoryUptoCard : Claim7 := { stood := { row := msgMemoryUptoRow, standIns := [], harness := (true, "37139eed435a86a36fb2c7aaf7c04d33363a134d589e9ffbe49f1d250670c7a4"), looks := true }, kinds := [], alts := [], laidByText := true, laidKinds := [.sentinel, .sentinel, .sentinel, .sentinel, .sentinel, .sentinel, .sentinel, .sentinel, .sentinel, .sentinel, .sentinel, .sentinel, .sentinel, .sentinel, .sentinel, .sentinel, .sentinel, .sentinel, .sentinel, .sentinel, .sentinel, .sentinel, .sentinel, .sentinel, .sentinel, .sentinel, .sentinel, .sentinel, .sentinel, .sentinel, .sentinel, .sentinel, .sentinel, .sentinel, .sentinel, .sentinel, .sentinel, .sentinel, .sentinel, .sentinel, .sentinel, .sentinel], laidTests := true, laidLooks := .later }
def MsgMemoryUptoCardSaid : Prop := Claim7.holds Tryd.pinned (.plain (OpenSpec.upto msgMemorySpec)) msgMemoryUptoCard
end Rows
end Go.Proofs.YtnocalkloinbbaaDoor
