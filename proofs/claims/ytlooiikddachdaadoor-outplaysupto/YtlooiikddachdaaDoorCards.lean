/-
  DERIVED. GIVEN WITH THE SEED: THE CARDS: each row of YtlooiikddachdaaDoorRows.lean that lists a variable, with what it lists TIED to the program's text (the seventh form; the later family's looks); each row that meets fmt, with fmt's text TOLD by the authors' own Lean function (tested against real Go, not proved from fmt's source: count such statements apart). THE CARD IS WHAT COUNTS. Prove the row's statement (the work); the ties are given (YtlooiikddachdaaDoorTie.lean); close each card by the builder's one call (the guide's Derived/Test/ToyasCard.lean, 'card_holds'). Laid BY PROGRAM, IN A SANDBOX (cutbox-door.mjs). By AI agents, Wed Nov 11 2026. No macro, syntax, notation, axiom, sorry.
-/
import Derived.Test.YtlooiikddachdaaDoorRows
import GoSem.ClaimSeven
namespace Go.Proofs.YtlooiikddachdaaDoor
namespace Rows

/-- THE TIED CARD OF 'culvertlaw06.OutPlays'. -/
def outPlaysCard : Claim7 := { stood := { row := outPlaysRow, standIns := [], harness := (true, "6e0db39d3db15c61850f6dd40605d22f72c69f261dba1c342086b0000b546107"), looks := true }, kinds := [], alts := [], laidByText := true, laidKinds := [.sentinel, .sentinel, .sentinel, .sentinel, .sentinel, .sentinel, .sentinel, .sentinel, .sentinel, .sentinel, .sentinel, .sentinel, .sentinel, .sentinel, .sentinel, .sentinel, .sentinel, .sentinel, .sentinel, .sentinel, .sentinel, .sentinel, .sentinel, .sentinel, .sentinel, .sentinel, .sentinel, .sentinel, .sentinel, .sentinel, .sentinel, .sentinel, .sentinel, .sentinel, .sentinel, .sentinel, .sentinel, .sentinel, .sentinel, .sentinel, .sentinel, .sentinel], laidTests := true, laidLooks := .later }
def OutPlaysCardSaid : Prop := Claim7.holds Tryd.pinned (.plain (OpenSpec.ofChange outPlaysSpec)) outPlaysCard

/-- THE TIED CARD OF 'culvertlaw06.OutPieces'. -/
def outPiecesCard : Claim7 := { stood := { row := outPiecesRow, standIns := [], harness := (true, "6e0db39d3db15c61850f6dd40605d22f72c69f261dba1c342086b0000b546107"), looks := true }, kinds := [], alts := [], laidByText := true, laidKinds := [.sentinel, .sentinel, .sentinel, .sentinel, .sentinel, .sentinel, .sentinel, .sentinel, .sentinel, .sentinel, .sentinel, .sentinel, .sentinel, .sentinel, .sentinel, .sentinel, .sentinel, .sentinel, .sentinel, .sentinel, .sentinel, .sentinel, .sentinel, .sentinel, .sentinel, .sentinel, .sentinel, .sentinel, .sentinel, .sentinel, .sentinel, .sentinel, .sentinel, .sentinel, .sentinel, .sentinel, .sentinel, .sentinel, .sentinel, .sentinel, .sentinel, .sentinel], laidTests := true, laidLooks := .later }
def OutPiecesCardSaid : Prop := Claim7.holds Tryd.pinned (.plain (OpenSpec.ofChange outPiecesSpec)) outPiecesCard

/-- THE TIED CARD OF 'culvertlaw06.OutNil'. -/
def outNilCard : Claim7 := { stood := { row := outNilRow, standIns := [], harness := (true, "6e0db39d3db15c61850f6dd40605d22f72c69f261dba1c342086b0000b546107"), looks := true }, kinds := [], alts := [], laidByText := true, laidKinds := [.sentinel, .sentinel, .sentinel, .sentinel, .sentinel, .sentinel, .sentinel, .sentinel, .sentinel, .sentinel, .sentinel, .sentinel, .sentinel, .sentinel, .sentinel, .sentinel, .sentinel, .sentinel, .sentinel, .sentinel, .sentinel, .sentinel, .sentinel, .sentinel, .sentinel, .sentinel, .sentinel, .sentinel, .sentinel, .sentinel, .sentinel, .sentinel, .sentinel, .sentinel, .sentinel, .sentinel, .sentinel, .sentinel, .sentinel, .sentinel, .sentinel, .sentinel], laidTests := true, laidLooks := .later }
def OutNilCardSaid : Prop := Claim7.holds Tryd.pinned (.plain (OpenSpec.ofChange outNilSpec)) outNilCard

/-- THE TIED CARD OF 'culvertlaw06.OutOwn'. -/
def outOwnCard : Claim7 := { stood := { row := outOwnRow, standIns := [], harness := (true, "6e0db39d3db15c61850f6dd40605d22f72c69f261dba1c342086b0000b546107"), looks := true }, kinds := [], alts := [], laidByText := true, laidKinds := [.sentinel, .sentinel, .sentinel, .sentinel, .sentinel, .sentinel, .sentinel, .sentinel, .sentinel, .sentinel, .sentinel, .sentinel, .sentinel, .sentinel, .sentinel, .sentinel, .sentinel, .sentinel, .sentinel, .sentinel, .sentinel, .sentinel, .sentinel, .sentinel, .sentinel, .sentinel, .sentinel, .sentinel, .sentinel, .sentinel, .sentinel, .sentinel, .sentinel, .sentinel, .sentinel, .sentinel, .sentinel, .sentinel, .sentinel, .sentinel, .sentinel, .sentinel], laidTests := true, laidLooks := .later }
def OutOwnCardSaid : Prop := Claim7.holds Tryd.pinned (.plain (OpenSpec.ofChange outOwnSpec)) outOwnCard

/-- THE SECOND FORM's CARD OF 'culvertlaw06.OutPlays'. -/
def outPlaysUptoCard : Claim7 := { stood := { row := outPlaysUptoRow, standIns := [], harness := (true, "6e0db39d3db15c61850f6dd40605d22f72c69f261dba1c342086b0000b546107"), looks := true }, kinds := [], alts := [], laidByText := true, laidKinds := [.sentinel, .sentinel, .sentinel, .sentinel, .sentinel, .sentinel, .sentinel, .sentinel, .sentinel, .sentinel, .sentinel, .sentinel, .sentinel, .sentinel, .sentinel, .sentinel, .sentinel, .sentinel, .sentinel, .sentinel, .sentinel, .sentinel, .sentinel, .sentinel, .sentinel, .sentinel, .sentinel, .sentinel, .sentinel, .sentinel, .sentinel, .sentinel, .sentinel, .sentinel, .sentinel, .sentinel, .sentinel, .sentinel, .sentinel, .sentinel, .sentinel, .sentinel], laidTests := true, laidLooks := .later }
def OutPlaysUptoCardSaid : Prop := Claim7.holds Tryd.pinned (.plain (OpenSpec.upto outPlaysSpec)) outPlaysUptoCard

/-- THE SECOND FORM's CARD OF 'culvertlaw06.OutPieces'. -/
def outPiecesUptoCard : Claim7 := { stood := { row := outPiecesUptoRow, standIns := [], harness := (true, "6e0db39d3db15c61850f6dd40605d22f72c69f261dba1c342086b0000b546107"), looks := true }, kinds := [], alts := [], laidByText := true, laidKinds := [.sentinel, .sentinel, .sentinel, .sentinel, .sentinel, .sentinel, .sentinel, .sentinel, .sentinel, .sentinel, .sentinel, .sentinel, .sentinel, .sentinel, .sentinel, .sentinel, .sentinel, .sentinel, .sentinel, .sentinel, .sentinel, .sentinel, .sentinel, .sentinel, .sentinel, .sentinel, .sentinel, .sentinel, .sentinel, .sentinel, .sentinel, .sentinel, .sentinel, .sentinel, .sentinel, .sentinel, .sentinel, .sentinel, .sentinel, .sentinel, .sentinel, .sentinel], laidTests := true, laidLooks := .later }
def OutPiecesUptoCardSaid : Prop := Claim7.holds Tryd.pinned (.plain (OpenSpec.upto outPiecesSpec)) outPiecesUptoCard

/-- THE SECOND FORM's CARD OF 'culvertlaw06.OutNil'. -/
def outNilUptoCard : Claim7 := { stood := { row := outNilUptoRow, standIns := [], harness := (true, "6e0db39d3db15c61850f6dd40605d22f72c69f261dba1c342086b0000b546107"), looks := true }, kinds := [], alts := [], laidByText := true, laidKinds := [.sentinel, .sentinel, .sentinel, .sentinel, .sentinel, .sentinel, .sentinel, .sentinel, .sentinel, .sentinel, .sentinel, .sentinel, .sentinel, .sentinel, .sentinel, .sentinel, .sentinel, .sentinel, .sentinel, .sentinel, .sentinel, .sentinel, .sentinel, .sentinel, .sentinel, .sentinel, .sentinel, .sentinel, .sentinel, .sentinel, .sentinel, .sentinel, .sentinel, .sentinel, .sentinel, .sentinel, .sentinel, .sentinel, .sentinel, .sentinel, .sentinel, .sentinel], laidTests := true, laidLooks := .later }
def OutNilUptoCardSaid : Prop := Claim7.holds Tryd.pinned (.plain (OpenSpec.upto outNilSpec)) outNilUptoCard

/-- THE SECOND FORM's CARD OF 'culvertlaw06.OutOwn'. -/
def outOwnUptoCard : Claim7 := { stood := { row := outOwnUptoRow, standIns := [], harness := (true, "6e0db39d3db15c61850f6dd40605d22f72c69f261dba1c342086b0000b546107"), looks := true }, kinds := [], alts := [], laidByText := true, laidKinds := [.sentinel, .sentinel, .sentinel, .sentinel, .sentinel, .sentinel, .sentinel, .sentinel, .sentinel, .sentinel, .sentinel, .sentinel, .sentinel, .sentinel, .sentinel, .sentinel, .sentinel, .sentinel, .sentinel, .sentinel, .sentinel, .sentinel, .sentinel, .sentinel, .sentinel, .sentinel, .sentinel, .sentinel, .sentinel, .sentinel, .sentinel, .sentinel, .sentinel, .sentinel, .sentinel, .sentinel, .sentinel, .sentinel, .sentinel, .sentinel, .sentinel, .sentinel], laidTests := true, laidLooks := .later }
def OutOwnUptoCardSaid : Prop := Claim7.holds Tryd.pinned (.plain (OpenSpec.upto outOwnSpec)) outOwnUptoCard
end Rows
end Go.Proofs.YtlooiikddachdaaDoor
