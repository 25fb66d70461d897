/-
  DERIVED. GIVEN WITH THE SEED: THE CARDS: each row of YtmlkhgcebmhodaaDoorRows.lean that lists a variable, with what it lists TIED to the program's text (the seventh form; the later family's looks); each row that meets fmt, with fmt's text TOLD by the authors' own Lean function (tested against real Go, not proved from fmt's source: count such statements apart). THE CARD IS WHAT COUNTS. Prove the row's statement (the work); the ties are given (YtmlkhgcebmhodaaDoorTie.lean); close each card by the builder's one call (the guide's Derived/Test/ToyasCard.lean, 'card_holds'). Laid BY PROGRAM, IN A SANDBOX (cutbox-door.mjs). By AI agents, Wed Nov 11 2026. No macro, syntax, notation, axiom, sorry.
-/
import Derived.Test.YtmlkhgcebmhodaaDoorRows
import GoSem.ClaimSeven
namespace Go.Proofs.YtmlkhgcebmhodaaDoor
namespace Rows

/-- THE TIED CARD OF 'culvertlaw06.OutPieces'. -/
def outPiecesCard : Claim7 := { stood := { row := outPiecesRow, standIns := [], harness := (true, "eb82d2c7f06dc29e13bc1c17783c6c7285c8c45ca0bc4bca4ffe34b3b0fc441c"), looks := true }, kinds := [], alts := [], laidByText := true, laidKinds := [.sentinel, .sentinel, .sentinel, .sentinel, .sentinel, .sentinel, .sentinel, .sentinel, .sentinel, .sentinel, .sentinel, .sentinel, .sentinel, .sentinel, .sentinel, .sentinel, .sentinel, .sentinel, .sentinel, .sentinel, .sentinel, .sentinel, .sentinel, .sentinel, .sentinel, .sentinel, .sentinel, .sentinel, .sentinel, .sentinel, .sentinel, .sentinel, .sentinel, .sentinel, .sentinel, .sentinel, .sentinel, .sentinel, .sentinel, .sentinel, .sentinel, .sentinel], laidTests := true, laidLooks := .later }
def OutPiecesCardSaid : Prop := Claim7.holds Tryd.pinned (.plain (OpenSpec.ofChange outPiecesSpec)) outPiecesCard

/-- THE TIED CARD OF 'culvertlaw06.OutOwn'. -/
def outOwnCard : Claim7 := { stood := { row := outOwnRow, standIns := [], harness := (true, "eb82d2c7f06dc29e13bc1c17783c6c7285c8c45ca0bc4bca4ffe34b3b0fc441c"), looks := true }, kinds := [], alts := [], laidByText := true, laidKinds := [.sentinel, .sentinel, .sentinel, .sentinel, .sentinel, .sentinel, .sentinel, .sentinel, .sentinel, .sentinel, .sentinel, .sentinel, .sentinel, .sentinel, .sentinel, .sentinel, .sentinel, .sentinel, .sentinel, .sentinel, .sentinel, .sentinel, .sentinel, .sentinel, .sentinel, .sentinel, .sentinel, .sentinel, .sentinel, .sentinel, .sentinel, .sentinel, .sentinel, .sentinel, .sentinel, .sentinel, .sentinel, .sentinel, .sentinel, .sentinel, .sentinel, .sentinel], laidTests := true, laidLooks := .later }
def OutOwnCardSaid : Prop := Claim7.holds Tryd.pinned (.plain (OpenSpec.ofChange outOwnSpec)) outOwnCard

/-- THE SECOND FORM's CARD OF 'culvertlaw06.OutPieces'. -/
def outPiecesUptoCard : Claim7 := { stood := { row := outPiecesUptoRow, standIns := [], harness := (true, "eb82d2c7f06dc29e13bc1c17783c6c7285c8c45ca0bc4bca4ffe34b3b0fc441c"), looks := true }, kinds := [], alts := [], laidByText := true, laidKinds := [.sentinel, .sentinel, .sentinel, .sentinel, .sentinel, .sentinel, .sentinel, .sentinel, .sentinel, .sentinel, .sentinel, .sentinel, .sentinel, .sentinel, .sentinel, .sentinel, .sentinel, .sentinel, .sentinel, .sentinel, .sentinel, .sentinel, .sentinel, .sentinel, .sentinel, .sentinel, .sentinel, .sentinel, .sentinel, .sentinel, .sentinel, .sentinel, .sentinel, .sentinel, .sentinel, .sentinel, .sentinel, .sentinel, .sentinel, .sentinel, .sentinel, .sentinel], laidTests := true, laidLooks := .later }
def OutPiecesUptoCardSaid : Prop := Claim7.holds Tryd.pinned (.plain (OpenSpec.upto outPiecesSpec)) outPiecesUptoCard

/-- THE SECOND FORM's CARD OF 'culvertlaw06.OutOwn'. -/
def outOwnUptoCard : Claim7 := { stood := { row := outOwnUptoRow, standIns := [], harness := (true, "eb82d2c7f06dc29e13bc1c17783c6c7285c8c45ca0bc4bca4ffe34b3b0fc441c"), looks := true }, kinds := [], alts := [], laidByText := true, laidKinds := [.sentinel, .sentinel, .sentinel, .sentinel, .sentinel, .sentinel, .sentinel, .sentinel, .sentinel, .sentinel, .sentinel, .sentinel, .sentinel, .sentinel, .sentinel, .sentinel, .sentinel, .sentinel, .sentinel, .sentinel, .sentinel, .sentinel, .sentinel, .sentinel, .sentinel, .sentinel, .sentinel, .sentinel, .sentinel, .sentinel, .sentinel, .sentinel, .sentinel, .sentinel, .sentinel, .sentinel, .sentinel, .sentinel, .sentinel, .sentinel, .sentinel, .sentinel], laidTests := true, laidLooks := .later }
def OutOwnUptoCardSaid : Prop := Claim7.holds Tryd.pinned (.plain (OpenSpec.upto outOwnSpec)) outOwnUptoCard
end Rows
end Go.Proofs.YtmlkhgcebmhodaaDoor
