/-
  DERIVED. GIVEN WITH THE SEED: THE CARDS: each row of YtpmmjekaefemeaaDoorRows.lean that lists a variable, with what it lists TIED to the program's text (the seventh form; the later family's looks); each row that meets fmt, with fmt's text TOLD by the authors' own Lean function (tested against real Go, not proved from fmt's source: count such statements apart). THE CARD IS WHAT COUNTS. Prove the row's statement (the work); the ties are given (YtpmmjekaefemeaaDoorTie.lean); close each card by the builder's one call (the guide's Derived/Test/ToyasCard.lean, 'card_holds'). Laid BY PROGRAM, IN A SANDBOX (cutbox-door.mjs). By AI agents, Wed Nov 11 2026. No macro, syntax, notation, axiom, sorry.
-/
import Derived.Test.YtpmmjekaefemeaaDoorRows
import GoSem.ClaimSeven
namespace Go.Proofs.YtpmmjekaefemeaaDoor
namespace Rows

/-- THE TIED CARD OF 'culvertlaw19.PipePlays'. -/
def pipePlaysCard : Claim7 := { stood := { row := pipePlaysRow, standIns := [], harness := (true, "ae371d03641f6bd789f1a88af2f2ce055783d0a4ab0b47365cafc74547f36685"), looks := true }, kinds := [], alts := [], laidByText := true, laidKinds := [.sentinel, .sentinel, .sentinel, .sentinel, .sentinel, .sentinel, .sentinel, .sentinel, .sentinel, .sentinel, .sentinel, .sentinel, .sentinel, .sentinel, .sentinel, .sentinel, .sentinel, .sentinel, .sentinel, .sentinel, .sentinel, .sentinel, .sentinel, .sentinel, .sentinel, .sentinel, .sentinel, .sentinel, .sentinel, .sentinel, .sentinel, .sentinel, .sentinel, .sentinel, .sentinel, .sentinel, .sentinel, .sentinel, .sentinel, .sentinel, .sentinel, .sentinel], laidTests := true, laidLooks := .later }
def PipePlaysCardSaid : Prop := Claim7.holds Tryd.pinned (.plain (OpenSpec.ofChange pipePlaysSpec)) pipePlaysCard

/-- THE TIED CARD OF 'culvertlaw19.PipePieces'. -/
def pipePiecesCard : Claim7 := { stood := { row := pipePiecesRow, standIns := [], harness := (true, "ae371d03641f6bd789f1a88af2f2ce055783d0a4ab0b47365cafc74547f36685"), looks := true }, kinds := [], alts := [], laidByText := true, laidKinds := [.sentinel, .sentinel, .sentinel, .sentinel], laidTests := true, laidLooks := .later }
def PipePiecesCardSaid : Prop := Claim7.holds Tryd.pinned (.plain (OpenSpec.ofChange pipePiecesSpec)) pipePiecesCard

/-- THE TIED CARD OF 'culvertlaw19.PipeCut'. -/
def pipeCutCard : Claim7 := { stood := { row := pipeCutRow, standIns := [], harness := (true, "ae371d03641f6bd789f1a88af2f2ce055783d0a4ab0b47365cafc74547f36685"), looks := true }, kinds := [], alts := [], laidByText := true, laidKinds := [.sentinel, .sentinel, .sentinel, .sentinel, .sentinel, .sentinel, .sentinel, .sentinel, .sentinel, .sentinel, .sentinel, .sentinel, .sentinel, .sentinel, .sentinel, .sentinel, .sentinel, .sentinel, .sentinel, .sentinel, .sentinel, .sentinel, .sentinel, .sentinel, .sentinel, .sentinel, .sentinel, .sentinel, .sentinel, .sentinel, .sentinel, .sentinel, .sentinel, .sentinel, .sentinel, .sentinel, .sentinel, .sentinel, .sentinel, .sentinel, .sentinel, .sentinel], laidTests := true, laidLooks := .later }
def PipeCutCardSaid : Prop := Claim7.holds Tryd.pinned (.plain (OpenSpec.ofChange pipeCutSpec)) pipeCutCard

/-- THE TIED CARD OF 'culvertlaw19.PipeNil'. -/
def pipeNilCard : Claim7 := { stood := { row := pipeNilRow, standIns := [], harness := (true, "ae371d03641f6bd789f1a88af2f2ce055783d0a4ab0b47365cafc74547f36685"), looks := true }, kinds := [], alts := [], laidByText := true, laidKinds := [.sentinel, .sentinel, .sentinel, .sentinel, .sentinel, .sentinel, .sentinel, .sentinel, .sentinel, .sentinel, .sentinel, .sentinel, .sentinel, .sentinel, .sentinel, .sentinel, .sentinel, .sentinel, .sentinel, .sentinel, .sentinel, .sentinel, .sentinel, .sentinel, .sentinel, .sentinel, .sentinel, .sentinel, .sentinel, .sentinel, .sentinel, .sentinel, .sentinel, .sentinel, .sentinel, .sentinel, .sentinel, .sentinel, .sentinel, .sentinel, .sentinel, .sentinel], laidTests := true, laidLooks := .later }
def PipeNilCardSaid : Prop := Claim7.holds Tryd.pinned (.plain (OpenSpec.ofChange pipeNilSpec)) pipeNilCard

/-- THE TIED CARD OF 'culvertlaw19.PipeOwn'. -/
def pipeOwnCard : Claim7 := { stood := { row := pipeOwnRow, standIns := [], harness := (true, "ae371d03641f6bd789f1a88af2f2ce055783d0a4ab0b47365cafc74547f36685"), looks := true }, kinds := [], alts := [], laidByText := true, laidKinds := [.sentinel, .sentinel, .sentinel, .sentinel, .sentinel, .sentinel, .sentinel, .sentinel, .sentinel, .sentinel, .sentinel, .sentinel, .sentinel, .sentinel, .sentinel, .sentinel, .sentinel, .sentinel, .sentinel, .sentinel, .sentinel, .sentinel, .sentinel, .sentinel, .sentinel, .sentinel, .sentinel, .sentinel, .sentinel, .sentinel, .sentinel, .sentinel, .sentinel, .sentinel, .sentinel, .sentinel, .sentinel, .sentinel, .sentinel, .sentinel, .sentinel, .sentinel], laidTests := true, laidLooks := .later }
def PipeOwnCardSaid : Prop := Claim7.holds Tryd.pinned (.plain (OpenSpec.ofChange pipeOwnSpec)) pipeOwnCard

/-- THE SECOND FORM's CARD OF 'culvertlaw19.PipePlays'. -/
def pipePlaysUptoCard : Claim7 := { stood := { row := pipePlaysUptoRow, standIns := [], harness := (true, "ae371d03641f6bd789f1a88af2f2ce055783d0a4ab0b47365cafc74547f36685"), looks := true }, kinds := [], alts := [], laidByText := true, laidKinds := [.sentinel, .sentinel, .sentinel, .sentinel, .sentinel, .sentinel, .sentinel, .sentinel, .sentinel, .sentinel, .sentinel, .sentinel, .sentinel, .sentinel, .sentinel, .sentinel, .sentinel, .sentinel, .sentinel, .sentinel, .sentinel, .sentinel, .sentinel, .sentinel, .sentinel, .sentinel, .sentinel, .sentinel, .sentinel, .sentinel, .sentinel, .sentinel, .sentinel, .sentinel, .sentinel, .sentinel, .sentinel, .sentinel, .sentinel, .sentinel, .sentinel, .sentinel], laidTests := true, laidLooks := .later }
def PipePlaysUptoCardSaid : Prop := Claim7.holds Tryd.pinned (.plain (OpenSpec.upto pipePlaysSpec)) pipePlaysUptoCard

/-- THE SECOND FORM's CARD OF 'culvertlaw19.PipePieces'. -/
def pipePiecesUptoCard : Claim7 := { stood := { row := pipePiecesUptoRow, standIns := [], harness := (true, "ae371d03641f6bd789f1a88af2f2ce055783d0a4ab0b47365cafc74547f36685"), looks := true }, kinds := [], alts := [], laidByText := true, laidKinds := [.sentinel, .sentinel, .sentinel, .sentinel], laidTests := true, laidLooks := .later }
def PipePiecesUptoCardSaid : Prop := Claim7.holds Tryd.pinned (.plain (OpenSpec.upto pipePiecesSpec)) pipePiecesUptoCard

/-- THE SECOND FORM's CARD OF 'culvertlaw19.PipeCut'. -/
def pipeCutUptoCard : Claim7 := { stood := { row := pipeCutUptoRow, standIns := [], harness := (true, "ae371d03641f6bd789f1a88af2f2ce055783d0a4ab0b47365cafc74547f36685"), looks := true }, kinds := [], alts := [], laidByText := true, laidKinds := [.sentinel, .sentinel, .sentinel, .sentinel, .sentinel, .sentinel, .sentinel, .sentinel, .sentinel, .sentinel, .sentinel, .sentinel, .sentinel, .sentinel, .sentinel, .sentinel, .sentinel, .sentinel, .sentinel, .sentinel, .sentinel, .sentinel, .sentinel, .sentinel, .sentinel, .sentinel, .sentinel, .sentinel, .sentinel, .sentinel, .sentinel, .sentinel, .sentinel, .sentinel, .sentinel, .sentinel, .sentinel, .sentinel, .sentinel, .sentinel, .sentinel, .sentinel], laidTests := true, laidLooks := .later }
def PipeCutUptoCardSaid : Prop := Claim7.holds Tryd.pinned (.plain (OpenSpec.upto pipeCutSpec)) pipeCutUptoCard

/-- THE SECOND FORM's CARD OF 'culvertlaw19.PipeNil'. -/
def pipeNilUptoCard : Claim7 := { stood := { row := pipeNilUptoRow, standIns := [], harness := (true, "ae371d03641f6bd789f1a88af2f2ce055783d0a4ab0b47365cafc74547f36685"), looks := true }, kinds := [], alts := [], laidByText := true, laidKinds := [.sentinel, .sentinel, .sentinel, .sentinel, .sentinel, .sentinel, .sentinel, .sentinel, .sentinel, .sentinel, .sentinel, .sentinel, .sentinel, .sentinel, .sentinel, .sentinel, .sentinel, .sentinel, .sentinel, .sentinel, .sentinel, .sentinel, .sentinel, .sentinel, .sentinel, .sentinel, .sentinel, .sentinel, .sentinel, .sentinel, .sentinel, .sentinel, .sentinel, .sentinel, .sentinel, .sentinel, .sentinel, .sentinel, .sentinel, .sentinel, .sentinel, .sentinel], laidTests := true, laidLooks := .later }
def PipeNilUptoCardSaid : Prop := Claim7.holds Tryd.pinned (.plain (OpenSpec.upto pipeNilSpec)) pipeNilUptoCard

/-- THE SECOND FORM's CARD OF 'culvertlaw19.PipeOwn'. -/
def pipeOwnUptoCard : Claim7 := { stood := { row := pipeOwnUptoRow, standIns := [], harness := (true, "ae371d03641f6bd789f1a88af2f2ce055783d0a4ab0b47365cafc74547f36685"), looks := true }, kinds := [], alts := [], laidByText := true, laidKinds := [.sentinel, .sentinel, .sentinel, .sentinel, .sentinel, .sentinel, .sentinel, .sentinel, .sentinel, .sentinel, .sentinel, .sentinel, .sentinel, .sentinel, .sentinel, .sentinel, .sentinel, .sentinel, .sentinel, .sentinel, .sentinel, .sentinel, .sentinel, .sentinel, .sentinel, .sentinel, .sentinel, .sentinel, .sentinel, .sentinel, .sentinel, .sentinel, .sentinel, .sentinel, .sentinel, .sentinel, .sentinel, .sentinel, .sentinel, .sentinel, .sentinel, .sentinel], laidTests := true, laidLooks := .later }
def PipeOwnUptoCardSaid : Prop := Claim7.holds Tryd.pinned (.plain (OpenSpec.upto pipeOwnSpec)) pipeOwnUptoCard
end Rows
end Go.Proofs.YtpmmjekaefemeaaDoor
