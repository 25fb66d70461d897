/-
  DERIVED. GIVEN WITH THE SEED: THE CARDS: each row of YtnljgklmaljfjaaDoorRows.lean that lists a variable, with what it lists TIED to the program's text (the seventh form; the later family's looks); each row that meets fmt, with fmt's text TOLD by the authors' own Lean function (tested against real Go, not proved from fmt's source: count such statements apart). THE CARD IS WHAT COUNTS. Prove the row's statement (the work); the ties are given (YtnljgklmaljfjaaDoorTie.lean); close each card by the builder's one call (the guide's Derived/Test/ToyasCard.lean, 'card_holds'). Laid BY PROGRAM, IN A SANDBOX (cutbox-door.mjs). By AI agents, Wed Nov 11 2026. No macro, syntax, notation, axiom, sorry.
-/
import Derived.Test.YtnljgklmaljfjaaDoorRows
import GoSem.ClaimSeven
namespace Go.Proofs.YtnljgklmaljfjaaDoor
namespace Rows

/-- THE TIED CARD OF 'culvertlaw03.FifoPairs'. -/
def fifoPairsCard : Claim7 := { stood := { row := fifoPairsRow, standIns := [], harness := (true, "2558100917e0e3cb5bc2f4f9f5696b1f82c4e742e7cbac0edb0c9018fe157c9b"), looks := true }, kinds := [], alts := [], laidByText := true, laidKinds := [.data, .data, .data, .sentinel, .sentinel, .sentinel, .sentinel, .sentinel, .sentinel, .sentinel, .sentinel, .sentinel, .sentinel, .sentinel, .sentinel, .sentinel, .sentinel, .sentinel, .sentinel, .sentinel, .sentinel, .sentinel, .sentinel, .sentinel, .sentinel, .sentinel, .sentinel, .sentinel, .sentinel, .sentinel, .sentinel, .sentinel, .sentinel, .sentinel, .sentinel, .sentinel, .sentinel, .sentinel, .sentinel, .sentinel, .sentinel, .sentinel, .sentinel, .sentinel, .sentinel], laidTests := true, laidLooks := .later }
def FifoPairsCardSaid : Prop := Claim7.holds Tryd.pinned (.plain (OpenSpec.ofChange fifoPairsSpec)) fifoPairsCard

/-- THE TIED CARD OF 'culvertlaw03.FifoWalk'. -/
def fifoWalkCard : Claim7 := { stood := { row := fifoWalkRow, standIns := [], harness := (true, "2558100917e0e3cb5bc2f4f9f5696b1f82c4e742e7cbac0edb0c9018fe157c9b"), looks := true }, kinds := [], alts := [], laidByText := true, laidKinds := [.sentinel, .sentinel, .sentinel, .sentinel, .sentinel, .sentinel, .sentinel, .sentinel, .sentinel, .sentinel, .sentinel, .sentinel, .sentinel, .sentinel, .sentinel, .sentinel, .sentinel, .sentinel, .sentinel, .sentinel, .sentinel, .sentinel, .sentinel, .sentinel, .sentinel, .sentinel, .sentinel, .sentinel, .sentinel, .sentinel, .sentinel, .sentinel, .sentinel, .sentinel, .sentinel, .sentinel, .sentinel, .sentinel, .sentinel, .sentinel, .sentinel, .sentinel], laidTests := true, laidLooks := .later }
def FifoWalkCardSaid : Prop := Claim7.holds Tryd.pinned (.plain (OpenSpec.ofChange fifoWalkSpec)) fifoWalkCard

/-- THE SECOND FORM's CARD OF 'culvertlaw03.FifoPairs'. -/
def fifoPairsUptoCard : Claim7 := { stood := { row := fifoPairsUptoRow, standIns := [], harness := (true, "2558100917e0e3cb5bc2f4f9f5696b1f82c4e742e7cbac0edb0c9018fe157c9b"), looks := true }, kinds := [], alts := [], laidByText := true, laidKinds := [.data, .data, .data, .sentinel, .sentinel, .sentinel, .sentinel, .sentinel, .sentinel, .sentinel, .sentinel, .sentinel, .sentinel, .sentinel, .sentinel, .sentinel, .sentinel, .sentinel, .sentinel, .sentinel, .sentinel, .sentinel, .sentinel, .sentinel, .sentinel, .sentinel, .sentinel, .sentinel, .sentinel, .sentinel, .sentinel, .sentinel, .sentinel, .sentinel, .sentinel, .sentinel, .sentinel, .sentinel, .sentinel, .sentinel, .sentinel, .sentinel, .sentinel, .sentinel, .sentinel], laidTests := true, laidLooks := .later }
def FifoPairsUptoCardSaid : Prop := Claim7.holds Tryd.pinned (.plain (OpenSpec.upto fifoPairsSpec)) fifoPairsUptoCard

/-- THE SECOND FORM's CARD OF 'culvertlaw03.FifoWalk'. -/
def fifoWalkUptoCard : Claim7 := { stood := { row := fifoWalkUptoRow, standIns := [], harness := (true, "2558100917e0e3cb5bc2f4f9f5696b1f82c4e742e7cbac0edb0c9018fe157c9b"), looks := true }, kinds := [], alts := [], laidByText := true, laidKinds := [.sentinel, .sentinel, .sentinel, .sentinel, .sentinel, .sentinel, .sentinel, .sentinel, .sentinel, .sentinel, .sentinel, .sentinel, .sentinel, .sentinel, .sentinel, .sentinel, .sentinel, .sentinel, .sentinel, .sentinel, .sentinel, .sentinel, .sentinel, .sentinel, .sentinel, .sentinel, .sentinel, .sentinel, .sentinel, .sentinel, .sentinel, .sentinel, .sentinel, .sentinel, .sentinel, .sentinel, .sentinel, .sentinel, .sentinel, .sentinel, .sentinel, .sentinel], laidTests := true, laidLooks := .later }
def FifoWalkUptoCardSaid : Prop := Claim7.holds Tryd.pinned (.plain (OpenSpec.upto fifoWalkSpec)) fifoWalkUptoCard
end Rows
end Go.Proofs.YtnljgklmaljfjaaDoor
