/-
  DERIVED. GIVEN WITH THE SEED: THE CARDS: each row of YtefaicgfcibofaaDoorRows.lean that lists a variable, with what it lists TIED to the program's text (the seventh form; the later family's looks); each row that meets fmt, with fmt's text TOLD by the authors' own Lean function (tested against real Go, not proved from fmt's source: count such statements apart). THE CARD IS WHAT COUNTS. Prove the row's statement (the work); the ties are given (YtefaicgfcibofaaDoorTie.lean); close each card by the builder's one call (the guide's Derived/Test/ToyasCard.lean, 'card_holds'). Laid BY PROGRAM, IN A SANDBOX (cutbox-door.mjs). By AI agents, Wed Nov 11 2026. No macro, syntax, notation, axiom, sorry.
-/
import Derived.Test.YtefaicgfcibofaaDoorRows
import GoSem.ClaimSeven
namespace Go.Proofs.YtefaicgfcibofaaDoor
namespace Rows

/-- THE TIED CARD OF 'culvertlaw07.CreditPlays'. -/
def creditPlaysCard : Claim7 := { stood := { row := creditPlaysRow, standIns := [], harness := (true, "e44af9b26258e7384fb2b4f0c24f0aeb76438748f93c4bf1a89f01b144d21d9e"), looks := true }, kinds := [], alts := [], laidByText := true, laidKinds := [.sentinel, .sentinel, .sentinel, .sentinel, .sentinel, .sentinel, .sentinel, .sentinel, .sentinel, .sentinel, .sentinel, .sentinel, .sentinel, .sentinel, .sentinel, .sentinel, .sentinel, .sentinel, .sentinel, .sentinel, .sentinel, .sentinel, .sentinel, .sentinel, .sentinel, .sentinel, .sentinel, .sentinel, .sentinel, .sentinel, .sentinel, .sentinel, .sentinel, .sentinel, .sentinel, .sentinel, .sentinel, .sentinel, .sentinel, .sentinel, .sentinel, .sentinel], laidTests := true, laidLooks := .later }
def CreditPlaysCardSaid : Prop := Claim7.holds Tryd.pinned (.plain (OpenSpec.ofChange creditPlaysSpec)) creditPlaysCard

/-- THE TIED CARD OF 'culvertlaw07.CreditNever'. -/
def creditNeverCard : Claim7 := { stood := { row := creditNeverRow, standIns := [], harness := (true, "e44af9b26258e7384fb2b4f0c24f0aeb76438748f93c4bf1a89f01b144d21d9e"), looks := true }, kinds := [], alts := [], laidByText := true, laidKinds := [.sentinel, .sentinel, .sentinel, .sentinel, .sentinel, .sentinel, .sentinel, .sentinel, .sentinel, .sentinel, .sentinel, .sentinel, .sentinel, .sentinel, .sentinel, .sentinel, .sentinel, .sentinel, .sentinel, .sentinel, .sentinel, .sentinel, .sentinel, .sentinel, .sentinel, .sentinel, .sentinel, .sentinel, .sentinel, .sentinel, .sentinel, .sentinel, .sentinel, .sentinel, .sentinel, .sentinel, .sentinel, .sentinel, .sentinel, .sentinel, .sentinel, .sentinel], laidTests := true, laidLooks := .later }
def CreditNeverCardSaid : Prop := Claim7.holds Tryd.pinned (.plain (OpenSpec.ofChange creditNeverSpec)) creditNeverCard

/-- THE TIED CARD OF 'culvertlaw07.CreditTwo'. -/
def creditTwoCard : Claim7 := { stood := { row := creditTwoRow, standIns := [], harness := (true, "e44af9b26258e7384fb2b4f0c24f0aeb76438748f93c4bf1a89f01b144d21d9e"), looks := true }, kinds := [], alts := [], laidByText := true, laidKinds := [.sentinel, .sentinel, .sentinel, .sentinel, .sentinel, .sentinel, .sentinel, .sentinel, .sentinel, .sentinel, .sentinel, .sentinel, .sentinel, .sentinel, .sentinel, .sentinel, .sentinel, .sentinel, .sentinel, .sentinel, .sentinel, .sentinel, .sentinel, .sentinel, .sentinel, .sentinel, .sentinel, .sentinel, .sentinel, .sentinel, .sentinel, .sentinel, .sentinel, .sentinel, .sentinel, .sentinel, .sentinel, .sentinel, .sentinel, .sentinel, .sentinel, .sentinel], laidTests := true, laidLooks := .later }
def CreditTwoCardSaid : Prop := Claim7.holds Tryd.pinned (.plain (OpenSpec.ofChange creditTwoSpec)) creditTwoCard

/-- THE SECOND FORM's CARD OF 'culvertlaw07.CreditPlays'. -/
def creditPlaysUptoCard : Claim7 := { stood := { row := creditPlaysUptoRow, standIns := [], harness := (true, "e44af9b26258e7384fb2b4f0c24f0aeb76438748f93c4bf1a89f01b144d21d9e"), looks := true }, kinds := [], alts := [], laidByText := true, laidKinds := [.sentinel, .sentinel, .sentinel, .sentinel, .sentinel, .sentinel, .sentinel, .sentinel, .sentinel, .sentinel, .sentinel, .sentinel, .sentinel, .sentinel, .sentinel, .sentinel, .sentinel, .sentinel, .sentinel, .sentinel, .sentinel, .sentinel, .sentinel, .sentinel, .sentinel, .sentinel, .sentinel, .sentinel, .sentinel, .sentinel, .sentinel, .sentinel, .sentinel, .sentinel, .sentinel, .sentinel, .sentinel, .sentinel, .sentinel, .sentinel, .sentinel, .sentinel], laidTests := true, laidLooks := .later }
def CreditPlaysUptoCardSaid : Prop := Claim7.holds Tryd.pinned (.plain (OpenSpec.upto creditPlaysSpec)) creditPlaysUptoCard

/-- THE SECOND FORM's CARD OF 'culvertlaw07.CreditNever'. -/
def creditNeverUptoCard : Claim7 := { stood := { row := creditNeverUptoRow, standIns := [], harness := (true, "e44af9b26258e7384fb2b4f0c24f0aeb76438748f93c4bf1a89f01b144d21d9e"), looks := true }, kinds := [], alts := [], laidByText := true, laidKinds := [.sentinel, .sentinel, .sentinel, .sentinel, .sentinel, .sentinel, .sentinel, .sentinel, .sentinel, .sentinel, .sentinel, .sentinel, .sentinel, .sentinel, .sentinel, .sentinel, .sentinel, .sentinel, .sentinel, .sentinel, .sentinel, .sentinel, .sentinel, .sentinel, .sentinel, .sentinel, .sentinel, .sentinel, .sentinel, .sentinel, .sentinel, .sentinel, .sentinel, .sentinel, .sentinel, .sentinel, .sentinel, .sentinel, .sentinel, .sentinel, .sentinel, .sentinel], laidTests := true, laidLooks := .later }
def CreditNeverUptoCardSaid : Prop := Claim7.holds Tryd.pinned (.plain (OpenSpec.upto creditNeverSpec)) creditNeverUptoCard

/-- THE SECOND FORM's CARD OF 'culvertlaw07.CreditTwo'. -/
def creditTwoUptoCard : Claim7 := { stood := { row := creditTwoUptoRow, standIns := [], harness := (true, "e44af9b26258e7384fb2b4f0c24f0aeb76438748f93c4bf1a89f01b144d21d9e"), looks := true }, kinds := [], alts := [], laidByText := true, laidKinds := [.sentinel, .sentinel, .sentinel, .sentinel, .sentinel, .sentinel, .sentinel, .sentinel, .sentinel, .sentinel, .sentinel, .sentinel, .sentinel, .sentinel, .sentinel, .sentinel, .sentinel, .sentinel, .sentinel, .sentinel, .sentinel, .sentinel, .sentinel, .sentinel, .sentinel, .sentinel, .sentinel, .sentinel, .sentinel, .sentinel, .sentinel, .sentinel, .sentinel, .sentinel, .sentinel, .sentinel, .sentinel, .sentinel, .sentinel, .sentinel, .sentinel, .sentinel], laidTests := true, laidLooks := .later }
def CreditTwoUptoCardSaid : Prop := Claim7.holds Tryd.pinned (.plain (OpenSpec.upto creditTwoSpec)) creditTwoUptoCard
end Rows
end Go.Proofs.YtefaicgfcibofaaDoor
