/-
  DERIVED. GIVEN WITH THE SEED: THE CARDS: each row of YtkmijhfimkcoiaaDoorRows.lean that lists a variable, with what it lists TIED to the program's text (the seventh form; the later family's looks); each row that meets fmt, with fmt's text TOLD by the authors' own Lean function (tested against real Go, not proved from fmt's source: count such statements apart). THE CARD IS WHAT COUNTS. Prove the row's statement (the work); the ties are given (YtkmijhfimkcoiaaDoorTie.lean); close each card by the builder's one call (the guide's Derived/Test/ToyasCard.lean, 'card_holds'). Laid BY PROGRAM, IN A SANDBOX (cutbox-door.mjs). By AI agents, Wed Nov 11 2026. No macro, syntax, notation, axiom, sorry.
-/
import Derived.Test.YtkmijhfimkcoiaaDoorRows
import GoSem.ClaimSeven
namespace Go.Proofs.YtkmijhfimkcoiaaDoor
namespace Rows

/-- THE TIED CARD OF 'culvertlaw02.RingMemory'. -/
def ringMemoryCard : Claim7 := { stood := { row := ringMemoryRow, standIns := [], harness := (true, "248d2da1446e53c9b8cc9f789ed1e590a82d414faaeb56355f56fd3291b4118f"), looks := true }, kinds := [], alts := [], laidByText := true, laidKinds := [.sentinel, .sentinel, .sentinel, .sentinel, .sentinel, .sentinel, .sentinel, .sentinel, .sentinel, .sentinel, .sentinel, .sentinel, .sentinel, .sentinel, .sentinel, .sentinel, .sentinel, .sentinel, .sentinel, .sentinel, .sentinel, .sentinel, .sentinel, .sentinel, .sentinel, .sentinel, .sentinel, .sentinel, .sentinel, .sentinel, .sentinel, .sentinel, .sentinel, .sentinel, .sentinel, .sentinel, .sentinel, .sentinel, .sentinel, .sentinel, .sentinel, .sentinel], laidTests := true, laidLooks := .later }
def RingMemoryCardSaid : Prop := Claim7.holds Tryd.pinned (.plain (OpenSpec.ofChange ringMemorySpec)) ringMemoryCard

/-- THE SECOND FORM's CARD OF 'culvertlaw02.RingMemory'. -/
def ringMemoryUptoCard : Claim7 := { stood := { row := ringMemoryUptoRow, standIns := [], harness := (true, "248d2da1446e53c9b8cc9f789ed1e590a82d414faaeb56355f56fd3291b4118f"), looks := true }, kinds := [], alts := [], laidByText := true, laidKinds := [.sentinel, .sentinel, .sentinel, .sentinel, .sentinel, .sentinel, .sentinel, .sentinel, .sentinel, .sentinel, .sentinel, .sentinel, .sentinel, .sentinel, .sentinel, .sentinel, .sentinel, .sentinel, .sentinel, .sentinel, .sentinel, .sentinel, .sentinel, .sentinel, .sentinel, .sentinel, .sentinel, .sentinel, .sentinel, .sentinel, .sentinel, .sentinel, .sentinel, .sentinel, .sentinel, .sentinel, .sentinel, .sentinel, .sentinel, .sentinel, .sentinel, .sentinel], laidTests := true, laidLooks := .later }
def RingMemoryUptoCardSaid : Prop := Claim7.holds Tryd.pinned (.plain (OpenSpec.upto ringMemorySpec)) ringMemoryUptoCard
end Rows
end Go.Proofs.YtkmijhfimkcoiaaDoor
