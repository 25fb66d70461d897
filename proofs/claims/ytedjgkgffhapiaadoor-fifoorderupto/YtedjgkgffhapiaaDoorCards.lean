/-
  DERIVED. GIVEN WITH THE SEED: THE CARDS: each row of YtedjgkgffhapiaaDoorRows.lean that lists a variable, with what it lists TIED to the program's text (the seventh form; the later family's looks); each row that meets fmt, with fmt's text TOLD by the authors' own Lean function (tested against real Go, not proved from fmt's source: count such statements apart). THE CARD IS WHAT COUNTS. Prove the row's statement (the work); the ties are given (YtedjgkgffhapiaaDoorTie.lean); close each card by the builder's one call (the guide's Derived/Test/ToyasCard.lean, 'card_holds'). Laid BY PROGRAM, IN A SANDBOX (cutbox-door.mjs). By AI agents, Wed Nov 11 2026. No macro, syntax, notation, axiom, sorry.
-/
import Derived.Test.YtedjgkgffhapiaaDoorRows
import GoSem.ClaimSeven
namespace Go.Proofs.YtedjgkgffhapiaaDoor
namespace Rows

/-- THE TIED CARD OF 'culvertlaw03.FifoOrder'. -/
def fifoOrderCard : Claim7 := { stood := { row := fifoOrderRow, standIns := [], harness := (true, "e692aaf1f6f2643f783110f0b029024152e1795c7a8243f88c95926f15cc28f6"), looks := true }, kinds := [], alts := [], laidByText := true, laidKinds := [.sentinel, .sentinel, .sentinel, .sentinel, .sentinel, .sentinel, .sentinel, .sentinel, .sentinel, .sentinel, .sentinel, .sentinel, .sentinel, .sentinel, .sentinel, .sentinel, .sentinel, .sentinel, .sentinel, .sentinel, .sentinel, .sentinel, .sentinel, .sentinel, .sentinel, .sentinel, .sentinel, .sentinel, .sentinel, .sentinel, .sentinel, .sentinel, .sentinel, .sentinel, .sentinel, .sentinel, .sentinel, .sentinel, .sentinel, .sentinel, .sentinel, .sentinel], laidTests := true, laidLooks := .later }
def FifoOrderCardSaid : Prop := Claim7.holds Tryd.pinned (.plain (OpenSpec.ofChange fifoOrderSpec)) fifoOrderCard

/-- THE SECOND FORM's CARD OF 'culvertlaw03.FifoOrder'. -/
def fifoOrderUptoCard : Claim7 := { stood := { row := fifoOrderUptoRow, standIns := [], harness := (true, "e692aaf1f6f2643f783110f0b029024152e1795c7a8243f88c95926f15cc28f6"), looks := true }, kinds := [], alts := [], laidByText := true, laidKinds := [.sentinel, .sentinel, .sentinel, .sentinel, .sentinel, .sentinel, .sentinel, .sentinel, .sentinel, .sentinel, .sentinel, .sentinel, .sentinel, .sentinel, .sentinel, .sentinel, .sentinel, .sentinel, .sentinel, .sentinel, .sentinel, .sentinel, .sentinel, .sentinel, .sentinel, .sentinel, .sentinel, .sentinel, .sentinel, .sentinel, .sentinel, .sentinel, .sentinel, .sentinel, .sentinel, .sentinel, .sentinel, .sentinel, .sentinel, .sentinel, .sentinel, .sentinel], laidTests := true, laidLooks := .later }
def FifoOrderUptoCardSaid : Prop := Claim7.holds Tryd.pinned (.plain (OpenSpec.upto fifoOrderSpec)) fifoOrderUptoCard
end Rows
end Go.Proofs.YtedjgkgffhapiaaDoor
