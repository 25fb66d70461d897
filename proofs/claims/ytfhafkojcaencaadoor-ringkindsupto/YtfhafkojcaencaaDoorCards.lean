/-
  DERIVED. GIVEN WITH THE SEED: THE CARDS: each row of YtfhafkojcaencaaDoorRows.lean that lists a variable, with what it lists TIED to the program's text (the seventh form; the later family's looks); each row that meets fmt, with fmt's text TOLD by the authors' own Lean function (tested against real Go, not proved from fmt's source: count such statements apart). THE CARD IS WHAT COUNTS. Prove the row's statement (the work); the ties are given (YtfhafkojcaencaaDoorTie.lean); close each card by the builder's one call (the guide's Derived/Test/ToyasCard.lean, 'card_holds'). Laid BY PROGRAM, IN A SANDBOX (cutbox-door.mjs). By AI agents, Wed Nov 11 2026. No macro, syntax, notation, axiom, sorry.
-/
import Derived.Test.YtfhafkojcaencaaDoorRows
import GoSem.ClaimSeven
namespace Go.Proofs.YtfhafkojcaencaaDoor
namespace Rows

/-- THE TIED CARD OF 'culvertlaw02.RingKinds'. -/
def ringKindsCard : Claim7 := { stood := { row := ringKindsRow, standIns := [], harness := (true, "cf74c092f8be5284505c441b0d4abc64735ce5c2ab088c5f0a6cecbae7fb514a"), looks := false }, kinds := [], alts := [], laidByText := true, laidKinds := [.data, .data, .data, .sentinel], laidTests := true, laidLooks := .later }
def RingKindsCardSaid : Prop := Claim7.holds Tryd.pinned (.plain (OpenSpec.ofChange ringKindsSpec)) ringKindsCard

/-- THE SECOND FORM's CARD OF 'culvertlaw02.RingKinds'. -/
def ringKindsUptoCard : Claim7 := { stood := { row := ringKindsUptoRow, standIns := [], harness := (true, "cf74c092f8be5284505c441b0d4abc64735ce5c2ab088c5f0a6cecbae7fb514a"), looks := false }, kinds := [], alts := [], laidByText := true, laidKinds := [.data, .data, .data, .sentinel], laidTests := true, laidLooks := .later }
def RingKindsUptoCardSaid : Prop := Claim7.holds Tryd.pinned (.plain (OpenSpec.upto ringKindsSpec)) ringKindsUptoCard
end Rows
end Go.Proofs.YtfhafkojcaencaaDoor
