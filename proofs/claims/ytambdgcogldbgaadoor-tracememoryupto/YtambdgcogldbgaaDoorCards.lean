/-
  DERIVED. GIVEN WITH THE SEED: THE CARDS: each row of YtambdgcogldbgaaDoorRows.lean that lists a variable, with what it lists TIED to the program's text (the seventh form; the later family's looks); each row that meets fmt, with fmt's text TOLD by the authors' own Lean function (tested against real Go, not proved from fmt's source: count such statements apart). THE CARD IS WHAT COUNTS. Prove the row's statement (the work); the ties are given (YtambdgcogldbgaaDoorTie.lean); close each card by the builder's one call (the guide's Derived/Test/ToyasCard.lean, 'card_holds'). Laid BY PROGRAM, IN A SANDBOX (cutbox-door.mjs). By AI agents, Wed Nov 11 2026. No macro, syntax, notation, axiom, sorry.
-/
import Derived.Test.YtambdgcogldbgaaDoorRows
import GoSem.ClaimSeven
namespace Go.Proofs.YtambdgcogldbgaaDoor
namespace Rows

/-- THE TIED CARD OF 'culvertlaw24.TraceMemory'. -/
def traceMemoryCard : Claim7 := { stood := { row := traceMemoryRow, standIns := [], harness := (true, "fad8230c729c8bcf8382a88c55f89a92a7a238e0722cdf3c4b36763d13858640"), looks := true }, kinds := [], alts := [], laidByText := true, laidKinds := [.data, .data, .data, .sentinel, .sentinel, .sentinel, .sentinel, .sentinel, .sentinel, .sentinel, .sentinel, .sentinel, .sentinel, .sentinel, .sentinel, .sentinel, .sentinel, .sentinel, .sentinel, .sentinel, .sentinel, .sentinel, .sentinel, .sentinel, .sentinel, .sentinel, .sentinel, .sentinel, .sentinel, .sentinel, .sentinel, .sentinel, .sentinel, .sentinel, .sentinel, .sentinel, .sentinel, .sentinel, .sentinel, .sentinel, .sentinel, .sentinel, .sentinel, .sentinel, .sentinel], laidTests := true, laidLooks := .later }
def TraceMemoryCardSaid : Prop := Claim7.holds Tryd.pinned (.plain (OpenSpec.ofChange traceMemorySpec)) traceMemoryCard

/-- THE SECOND FORM's CARD OF 'culvertlaw24.TraceMemory'. -/
def traceMemoryUptoCard : Claim7 := { stood := { row := traceMemoryUptoRow, standIns := [], harness := (true, "fad8230c729c8bcf8382a88c55f89a92a7a238e0722cdf3c4b36763d13858640"), looks := true }, kinds := [], alts := [], laidByText := true, laidKinds := [.data, .data, .data, .sentinel, .sentinel, .sentinel, .sentinel, .sentinel, .sentinel, .sentinel, .sentinel, .sentinel, .sentinel, .sentinel, .sentinel, .sentinel, .sentinel, .sentinel, .sentinel, .sentinel, .sentinel, .sentinel, .sentinel, .sentinel, .sentinel, .sentinel, .sentinel, .sentinel, .sentinel, .sentinel, .sentinel, .sentinel, .sentinel, .sentinel, .sentinel, .sentinel, .sentinel, .sentinel, .sentinel, .sentinel, .sentinel, .sentinel, .sentinel, .sentinel, .sentinel], laidTests := true, laidLooks := .later }
def TraceMemoryUptoCardSaid : Prop := Claim7.holds Tryd.pinned (.plain (OpenSpec.upto traceMemorySpec)) traceMemoryUptoCard
end Rows
end Go.Proofs.YtambdgcogldbgaaDoor
