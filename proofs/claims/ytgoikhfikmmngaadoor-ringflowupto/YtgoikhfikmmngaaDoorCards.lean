/-
  DERIVED. GIVEN WITH THE SEED: THE CARDS: each row of YtgoikhfikmmngaaDoorRows.lean that lists a variable, with what it lists TIED to the program's text (the seventh form; the later family's looks); each row that meets fmt, with fmt's text TOLD by the authors' own Lean function (tested against real Go, not proved from fmt's source: count such statements apart). THE CARD IS WHAT COUNTS. Prove the row's statement (the work); the ties are given (YtgoikhfikmmngaaDoorTie.lean); close each card by the builder's one call (the guide's Derived/Test/ToyasCard.lean, 'card_holds'). Laid BY PROGRAM, IN A SANDBOX (cutbox-door.mjs). By AI agents, Wed Nov 11 2026. No macro, syntax, notation, axiom, sorry.
-/
import Derived.Test.YtgoikhfikmmngaaDoorRows
import GoSem.ClaimSeven
namespace Go.Proofs.YtgoikhfikmmngaaDoor
namespace Rows

/-- THE TIED CARD OF 'culvertlaw02.RingFlow'. -/
def ringFlowCard : Claim7 := { stood := { row := ringFlowRow, standIns := [], harness := (true, "695bce82e5501c553d0219a28e0611d0e0ead654884916962d68d163d2d49ec0"), looks := false }, kinds := [], alts := [], laidByText := true, laidKinds := [.sentinel], laidTests := true, laidLooks := .later }
def RingFlowCardSaid : Prop := Claim7.holds Tryd.pinned (.plain (OpenSpec.ofChange ringFlowSpec)) ringFlowCard

/-- THE TIED CARD OF 'culvertlaw02.RingKinds'. -/
def ringKindsCard : Claim7 := { stood := { row := ringKindsRow, standIns := [], harness := (true, "695bce82e5501c553d0219a28e0611d0e0ead654884916962d68d163d2d49ec0"), looks := false }, kinds := [], alts := [], laidByText := true, laidKinds := [.data, .data, .data, .sentinel], laidTests := true, laidLooks := .later }
def RingKindsCardSaid : Prop := Claim7.holds Tryd.pinned (.plain (OpenSpec.ofChange ringKindsSpec)) ringKindsCard

/-- THE SECOND FORM's CARD OF 'culvertlaw02.RingFlow'. -/
def ringFlowUptoCard : Claim7 := { stood := { row := ringFlowUptoRow, standIns := [], harness := (true, "695bce82e5501c553d0219a28e0611d0e0ead654884916962d68d163d2d49ec0"), looks := false }, kinds := [], alts := [], laidByText := true, laidKinds := [.sentinel], laidTests := true, laidLooks := .later }
def RingFlowUptoCardSaid : Prop := Claim7.holds Tryd.pinned (.plain (OpenSpec.upto ringFlowSpec)) ringFlowUptoCard

/-- THE SECOND FORM's CARD OF 'culvertlaw02.RingKinds'. -/
def ringKindsUptoCard : Claim7 := { stood := { row := ringKindsUptoRow, standIns := [], harness := (true, "695bce82e5501c553d0219a28e0611d0e0ead654884916962d68d163d2d49ec0"), looks := false }, kinds := [], alts := [], laidByText := true, laidKinds := [.data, .data, .data, .sentinel], laidTests := true, laidLooks := .later }
def RingKindsUptoCardSaid : Prop := Claim7.holds Tryd.pinned (.plain (OpenSpec.upto ringKindsSpec)) ringKindsUptoCard
end Rows
end Go.Proofs.YtgoikhfikmmngaaDoor
