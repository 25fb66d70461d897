/-
  DERIVED. GIVEN WITH THE SEED: THE CARDS: each row of YteghehhifebhcaaDoorRows.lean that lists a variable, with what it lists TIED to the program's text (the seventh form; the later family's looks); each row that meets fmt, with fmt's text TOLD by the authors' own Lean function (tested against real Go, not proved from fmt's source: count such statements apart). THE CARD IS WHAT COUNTS. Prove the row's statement (the work); the ties are given (YteghehhifebhcaaDoorTie.lean); close each card by the builder's one call (the guide's Derived/Test/ToyasCard.lean, 'card_holds'). Laid BY PROGRAM, IN A SANDBOX (cutbox-door.mjs). By AI agents, Wed Nov 11 2026. No macro, syntax, notation, axiom, sorry.
-/
import Derived.Test.YteghehhifebhcaaDoorRows
import GoSem.ClaimSeven
namespace Go.Proofs.YteghehhifebhcaaDoor
namespace Rows

/-- THE TIED CARD OF 'culvertlaw10.StreamPair'. -/
def streamPairCard : Claim7 := { stood := { row := streamPairRow, standIns := [], harness := (true, "946c859a89d9d0803cbae75365dcd32712fb467483630daf4baaf5f5ad1c62a3"), looks := true }, kinds := [], alts := [], laidByText := true, laidKinds := [.sentinel, .sentinel, .sentinel, .sentinel, .sentinel, .sentinel, .sentinel, .sentinel, .sentinel, .sentinel, .sentinel, .sentinel, .sentinel, .sentinel, .sentinel, .sentinel, .sentinel, .sentinel, .sentinel, .sentinel, .sentinel, .sentinel, .sentinel, .sentinel, .sentinel, .sentinel, .sentinel, .sentinel, .sentinel, .sentinel, .sentinel, .sentinel, .sentinel, .sentinel, .sentinel, .sentinel, .sentinel, .sentinel, .sentinel, .sentinel, .sentinel, .sentinel, .data], laidTests := true, laidLooks := .later }
def StreamPairCardSaid : Prop := Claim7.holds Tryd.pinned (.plain (OpenSpec.ofChange streamPairSpec)) streamPairCard

/-- THE TIED CARD OF 'culvertlaw10.StreamFrames'. -/
def streamFramesCard : Claim7 := { stood := { row := streamFramesRow, standIns := [], harness := (true, "946c859a89d9d0803cbae75365dcd32712fb467483630daf4baaf5f5ad1c62a3"), looks := true }, kinds := [], alts := [], laidByText := true, laidKinds := [.sentinel, .sentinel, .sentinel, .sentinel, .sentinel, .sentinel, .sentinel, .sentinel, .sentinel, .sentinel, .sentinel, .sentinel, .sentinel, .sentinel, .sentinel, .sentinel, .sentinel, .sentinel, .sentinel, .sentinel, .sentinel, .sentinel, .sentinel, .sentinel, .sentinel, .sentinel, .sentinel, .sentinel, .sentinel, .sentinel, .sentinel, .sentinel, .sentinel, .sentinel, .sentinel, .sentinel, .sentinel, .sentinel, .sentinel, .sentinel, .sentinel, .sentinel, .data], laidTests := true, laidLooks := .later }
def StreamFramesCardSaid : Prop := Claim7.holds Tryd.pinned (.plain (OpenSpec.ofChange streamFramesSpec)) streamFramesCard

/-- THE TIED CARD OF 'culvertlaw10.StreamRefused'. -/
def streamRefusedCard : Claim7 := { stood := { row := streamRefusedRow, standIns := [], harness := (true, "946c859a89d9d0803cbae75365dcd32712fb467483630daf4baaf5f5ad1c62a3"), looks := true }, kinds := [], alts := [], laidByText := true, laidKinds := [.sentinel, .sentinel, .sentinel, .sentinel, .sentinel, .sentinel, .sentinel, .sentinel, .sentinel, .sentinel, .sentinel, .sentinel, .sentinel, .sentinel, .sentinel, .sentinel, .sentinel, .sentinel, .sentinel, .sentinel, .sentinel, .sentinel, .sentinel, .sentinel, .sentinel, .sentinel, .sentinel, .sentinel, .sentinel, .sentinel, .sentinel, .sentinel, .sentinel, .sentinel, .sentinel, .sentinel, .sentinel, .sentinel, .sentinel, .sentinel, .sentinel, .sentinel, .data], laidTests := true, laidLooks := .later }
def StreamRefusedCardSaid : Prop := Claim7.holds Tryd.pinned (.plain (OpenSpec.ofChange streamRefusedSpec)) streamRefusedCard

/-- THE TIED CARD OF 'culvertlaw10.StreamOwn'. -/
def streamOwnCard : Claim7 := { stood := { row := streamOwnRow, standIns := [], harness := (true, "946c859a89d9d0803cbae75365dcd32712fb467483630daf4baaf5f5ad1c62a3"), looks := true }, kinds := [], alts := [], laidByText := true, laidKinds := [.sentinel, .sentinel, .sentinel, .sentinel, .sentinel, .sentinel, .sentinel, .sentinel, .sentinel, .sentinel, .data], laidTests := true, laidLooks := .later }
def StreamOwnCardSaid : Prop := Claim7.holds Tryd.pinned (.plain (OpenSpec.ofChange streamOwnSpec)) streamOwnCard

/-- THE SECOND FORM's CARD OF 'culvertlaw10.StreamPair'. -/
def streamPairUptoCard : Claim7 := { stood := { row := streamPairUptoRow, standIns := [], harness := (true, "946c859a89d9d0803cbae75365dcd32712fb467483630daf4baaf5f5ad1c62a3"), looks := true }, kinds := [], alts := [], laidByText := true, laidKinds := [.sentinel, .sentinel, .sentinel, .sentinel, .sentinel, .sentinel, .sentinel, .sentinel, .sentinel, .sentinel, .sentinel, .sentinel, .sentinel, .sentinel, .sentinel, .sentinel, .sentinel, .sentinel, .sentinel, .sentinel, .sentinel, .sentinel, .sentinel, .sentinel, .sentinel, .sentinel, .sentinel, .sentinel, .sentinel, .sentinel, .sentinel, .sentinel, .sentinel, .sentinel, .sentinel, .sentinel, .sentinel, .sentinel, .sentinel, .sentinel, .sentinel, .sentinel, .data], laidTests := true, laidLooks := .later }
def StreamPairUptoCardSaid : Prop := Claim7.holds Tryd.pinned (.plain (OpenSpec.upto streamPairSpec)) streamPairUptoCard

/-- THE SECOND FORM's CARD OF 'culvertlaw10.StreamFrames'. -/
def streamFramesUptoCard : Claim7 := { stood := { row := streamFramesUptoRow, standIns := [], harness := (true, "946c859a89d9d0803cbae75365dcd32712fb467483630daf4baaf5f5ad1c62a3"), looks := true }, kinds := [], alts := [], laidByText := true, laidKinds := [.sentinel, .sentinel, .sentinel, .sentinel, .sentinel, .sentinel, .sentinel, .sentinel, .sentinel, .sentinel, .sentinel, .sentinel, .sentinel, .sentinel, .sentinel, .sentinel, .sentinel, .sentinel, .sentinel, .sentinel, .sentinel, .sentinel, .sentinel, .sentinel, .sentinel, .sentinel, .sentinel, .sentinel, .sentinel, .sentinel, .sentinel, .sentinel, .sentinel, .sentinel, .sentinel, .sentinel, .sentinel, .sentinel, .sentinel, .sentinel, .sentinel, .sentinel, .data], laidTests := true, laidLooks := .later }
def StreamFramesUptoCardSaid : Prop := Claim7.holds Tryd.pinned (.plain (OpenSpec.upto streamFramesSpec)) streamFramesUptoCard

/-- THE SECOND FORM's CARD OF 'culvertlaw10.StreamRefused'. -/
def streamRefusedUptoCard : Claim7 := { stood := { row := streamRefusedUptoRow, standIns := [], harness := (true, "946c859a89d9d0803cbae75365dcd32712fb467483630daf4baaf5f5ad1c62a3"), looks := true }, kinds := [], alts := [], laidByText := true, laidKinds := [.sentinel, .sentinel, .sentinel, .sentinel, .sentinel, .sentinel, .sentinel, .sentinel, .sentinel, .sentinel, .sentinel, .sentinel, .sentinel, .sentinel, .sentinel, .sentinel, .sentinel, .sentinel, .sentinel, .sentinel, .sentinel, .sentinel, .sentinel, .sentinel, .sentinel, .sentinel, .sentinel, .sentinel, .sentinel, .sentinel, .sentinel, .sentinel, .sentinel, .sentinel, .sentinel, .sentinel, .sentinel, .sentinel, .sentinel, .sentinel, .sentinel, .sentinel, .data], laidTests := true, laidLooks := .later }
def StreamRefusedUptoCardSaid : Prop := Claim7.holds Tryd.pinned (.plain (OpenSpec.upto streamRefusedSpec)) streamRefusedUptoCard

/-- THE SECOND FORM's CARD OF 'culvertlaw10.StreamOwn'. -/
def streamOwnUptoCard : Claim7 := { stood := { row := streamOwnUptoRow, standIns := [], harness := (true, "946c859a89d9d0803cbae75365dcd32712fb467483630daf4baaf5f5ad1c62a3"), looks := true }, kinds := [], alts := [], laidByText := true, laidKinds := [.sentinel, .sentinel, .sentinel, .sentinel, .sentinel, .sentinel, .sentinel, .sentinel, .sentinel, .sentinel, .data], laidTests := true, laidLooks := .later }
def StreamOwnUptoCardSaid : Prop := Claim7.holds Tryd.pinned (.plain (OpenSpec.upto streamOwnSpec)) streamOwnUptoCard
end Rows
end Go.Proofs.YteghehhifebhcaaDoor
