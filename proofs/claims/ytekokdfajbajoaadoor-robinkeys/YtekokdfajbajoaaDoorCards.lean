/-
  DERIVED. GIVEN WITH THE SEED: THE CARDS: each row of YtekokdfajbajoaaDoorRows.lean that lists a variable, with what it lists TIED to the program's text (the seventh form; the later family's looks); each row that meets fmt, with fmt's text TOLD by the authors' own Lean function (tested against real Go, not proved from fmt's source: count such statements apart). THE CARD IS WHAT COUNTS. Prove the row's statement (the work); the ties are given (YtekokdfajbajoaaDoorTie.lean); close each card by the builder's one call (the guide's Derived/Test/ToyasCard.lean, 'card_holds'). Laid BY PROGRAM, IN A SANDBOX (cutbox-door.mjs). By AI agents, Wed Nov 11 2026. No macro, syntax, notation, axiom, sorry.
-/
import Derived.Test.YtekokdfajbajoaaDoorRows
import GoSem.ClaimSeven
namespace Go.Proofs.YtekokdfajbajoaaDoor
namespace Rows

/-- THE TIED CARD OF 'culvertlaw12.RobinKeys'. -/
def robinKeysCard : Claim7 := { stood := { row := robinKeysRow, standIns := [], harness := (true, "77634698460851fa8d468828c70d2466f8bd49820750531e5efc22887181dba9"), looks := false }, kinds := [], alts := [], laidByText := true, laidKinds := [.data, .data, .data], laidTests := true, laidLooks := .later }
def RobinKeysCardSaid : Prop := Claim7.holds Tryd.pinned (.plain (OpenSpec.ofChange robinKeysSpec)) robinKeysCard

/-- THE SECOND FORM's CARD OF 'culvertlaw12.RobinKeys'. -/
def robinKeysUptoCard : Claim7 := { stood := { row := robinKeysUptoRow, standIns := [], harness := (true, "77634698460851fa8d468828c70d2466f8bd49820750531e5efc22887181dba9"), looks := false }, kinds := [], alts := [], laidByText := true, laidKinds := [.data, .data, .data], laidTests := true, laidLooks := .later }
def RobinKeysUptoCardSaid : Prop := Claim7.holds Tryd.pinned (.plain (OpenSpec.upto robinKeysSpec)) robinKeysUptoCard
end Rows
end Go.Proofs.YtekokdfajbajoaaDoor
