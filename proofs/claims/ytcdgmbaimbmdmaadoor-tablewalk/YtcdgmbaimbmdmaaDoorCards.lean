/-
  DERIVED. GIVEN WITH THE SEED: THE CARDS: each row of YtcdgmbaimbmdmaaDoorRows.lean that lists a variable, with what it lists TIED to the program's text (the seventh form; the later family's looks); each row that meets fmt, with fmt's text TOLD by the authors' own Lean function (tested against real Go, not proved from fmt's source: count such statements apart). THE CARD IS WHAT COUNTS. Prove the row's statement (the work); the ties are given (YtcdgmbaimbmdmaaDoorTie.lean); close each card by the builder's one call (the guide's Derived/Test/ToyasCard.lean, 'card_holds'). Laid BY PROGRAM, IN A SANDBOX (cutbox-door.mjs). By AI agents, Wed Nov 11 2026. No macro, syntax, notation, axiom, sorry.
-/
import Derived.Test.YtcdgmbaimbmdmaaDoorRows
import GoSem.ClaimSeven
namespace Go.Proofs.YtcdgmbaimbmdmaaDoor
namespace Rows

/-- THE TIED CARD OF 'culvertlaw15.TableWalk'. -/
def tableWalkCard : Claim7 := { stood := { row := tableWalkRow, standIns := [], harness := (true, "6b516a3fbb6be9219f914366dc263ea40184b274a7e9ba8c4c311d4b727275f5"), looks := true }, kinds := [], alts := [], laidByText := true, laidKinds := [.sentinel, .sentinel, .sentinel, .sentinel, .sentinel, .sentinel, .sentinel, .sentinel, .sentinel, .sentinel, .sentinel, .sentinel, .sentinel, .sentinel, .sentinel, .sentinel, .sentinel, .sentinel, .sentinel, .sentinel, .sentinel, .sentinel, .sentinel, .sentinel, .sentinel, .sentinel, .sentinel, .sentinel, .sentinel, .sentinel, .sentinel, .sentinel, .sentinel, .sentinel, .sentinel, .sentinel, .sentinel, .sentinel, .sentinel, .sentinel, .sentinel, .sentinel], laidTests := true, laidLooks := .later }
def TableWalkCardSaid : Prop := Claim7.holds Tryd.pinned (.plain (OpenSpec.ofChange tableWalkSpec)) tableWalkCard

/-- THE SECOND FORM's CARD OF 'culvertlaw15.TableWalk'. -/
def tableWalkUptoCard : Claim7 := { stood := { row := tableWalkUptoRow, standIns := [], harness := (true, "6b516a3fbb6be9219f914366dc263ea40184b274a7e9ba8c4c311d4b727275f5"), looks := true }, kinds := [], alts := [], laidByText := true, laidKinds := [.sentinel, .sentinel, .sentinel, .sentinel, .sentinel, .sentinel, .sentinel, .sentinel, .sentinel, .sentinel, .sentinel, .sentinel, .sentinel, .sentinel, .sentinel, .sentinel, .sentinel, .sentinel, .sentinel, .sentinel, .sentinel, .sentinel, .sentinel, .sentinel, .sentinel, .sentinel, .sentinel, .sentinel, .sentinel, .sentinel, .sentinel, .sentinel, .sentinel, .sentinel, .sentinel, .sentinel, .sentinel, .sentinel, .sentinel, .sentinel, .sentinel, .sentinel], laidTests := true, laidLooks := .later }
def TableWalkUptoCardSaid : Prop := Claim7.holds Tryd.pinned (.plain (OpenSpec.upto tableWalkSpec)) tableWalkUptoCard
end Rows
end Go.Proofs.YtcdgmbaimbmdmaaDoor
