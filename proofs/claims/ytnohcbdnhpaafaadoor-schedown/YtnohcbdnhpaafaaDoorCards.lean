/-
  DERIVED. GIVEN WITH THE SEED: THE CARDS: each row of YtnohcbdnhpaafaaDoorRows.lean that lists a variable, with what it lists TIED to the program's text (the seventh form; the later family's looks); each row that meets fmt, with fmt's text TOLD by the authors' own Lean function (tested against real Go, not proved from fmt's source: count such statements apart). THE CARD IS WHAT COUNTS. Prove the row's statement (the work); the ties are given (YtnohcbdnhpaafaaDoorTie.lean); close each card by the builder's one call (the guide's Derived/Test/ToyasCard.lean, 'card_holds'). Laid BY PROGRAM, IN A SANDBOX (cutbox-door.mjs). By AI agents, Wed Nov 11 2026. No macro, syntax, notation, axiom, sorry.
-/
import Derived.Test.YtnohcbdnhpaafaaDoorRows
import GoSem.ClaimSeven
namespace Go.Proofs.YtnohcbdnhpaafaaDoor
namespace Rows

/-- THE TIED CARD OF 'culvertlaw13.SchedFirst'. -/
def schedFirstCard : Claim7 := { stood := { row := schedFirstRow, standIns := [], harness := (true, "663e0643e068e89b6338068c4edeb01f036292d51a8f28992b8fb6e2677d24af"), looks := true }, kinds := [], alts := [], laidByText := true, laidKinds := [.sentinel, .sentinel, .sentinel, .sentinel, .sentinel, .sentinel, .sentinel, .sentinel, .data], laidTests := true, laidLooks := .later }
def SchedFirstCardSaid : Prop := Claim7.holds Tryd.pinned (.plain (OpenSpec.ofChange schedFirstSpec)) schedFirstCard

/-- THE TIED CARD OF 'culvertlaw13.SchedFair'. -/
def schedFairCard : Claim7 := { stood := { row := schedFairRow, standIns := [], harness := (true, "663e0643e068e89b6338068c4edeb01f036292d51a8f28992b8fb6e2677d24af"), looks := true }, kinds := [], alts := [], laidByText := true, laidKinds := [.sentinel, .sentinel, .sentinel, .sentinel, .sentinel, .sentinel, .sentinel, .sentinel, .data], laidTests := true, laidLooks := .later }
def SchedFairCardSaid : Prop := Claim7.holds Tryd.pinned (.plain (OpenSpec.ofChange schedFairSpec)) schedFairCard

/-- THE TIED CARD OF 'culvertlaw13.SchedOwn'. -/
def schedOwnCard : Claim7 := { stood := { row := schedOwnRow, standIns := [], harness := (true, "663e0643e068e89b6338068c4edeb01f036292d51a8f28992b8fb6e2677d24af"), looks := true }, kinds := [], alts := [], laidByText := true, laidKinds := [.sentinel, .sentinel, .sentinel, .sentinel, .sentinel, .sentinel, .sentinel, .sentinel, .sentinel, .sentinel, .sentinel, .sentinel, .sentinel, .sentinel, .sentinel, .sentinel, .sentinel, .sentinel, .sentinel, .sentinel, .sentinel, .sentinel, .sentinel, .sentinel, .sentinel, .sentinel, .sentinel, .sentinel, .sentinel, .sentinel, .sentinel, .sentinel, .sentinel, .sentinel, .sentinel, .sentinel, .sentinel, .sentinel, .sentinel, .sentinel, .sentinel, .sentinel, .data], laidTests := true, laidLooks := .later }
def SchedOwnCardSaid : Prop := Claim7.holds Tryd.pinned (.plain (OpenSpec.ofChange schedOwnSpec)) schedOwnCard

/-- THE SECOND FORM's CARD OF 'culvertlaw13.SchedFirst'. -/
def schedFirstUptoCard : Claim7 := { stood := { row := schedFirstUptoRow, standIns := [], harness := (true, "663e0643e068e89b6338068c4edeb01f036292d51a8f28992b8fb6e2677d24af"), looks := true }, kinds := [], alts := [], laidByText := true, laidKinds := [.sentinel, .sentinel, .sentinel, .sentinel, .sentinel, .sentinel, .sentinel, .sentinel, .data], laidTests := true, laidLooks := .later }
def SchedFirstUptoCardSaid : Prop := Claim7.holds Tryd.pinned (.plain (OpenSpec.upto schedFirstSpec)) schedFirstUptoCard

/-- THE SECOND FORM's CARD OF 'culvertlaw13.SchedFair'. -/
def schedFairUptoCard : Claim7 := { stood := { row := schedFairUptoRow, standIns := [], harness := (true, "663e0643e068e89b6338068c4edeb01f036292d51a8f28992b8fb6e2677d24af"), looks := true }, kinds := [], alts := [], laidByText := true, laidKinds := [.sentinel, .sentinel, .sentinel, .sentinel, .sentinel, .sentinel, .sentinel, .sentinel, .data], laidTests := true, laidLooks := .later }
def SchedFairUptoCardSaid : Prop := Claim7.holds Tryd.pinned (.plain (OpenSpec.upto schedFairSpec)) schedFairUptoCard

/-- THE SECOND FORM's CARD OF 'culvertlaw13.SchedOwn'. -/
def schedOwnUptoCard : Claim7 := { stood := { row := schedOwnUptoRow, standIns := [], harness := (true, "663e0643e068e89b6338068c4edeb01f036292d51a8f28992b8fb6e2677d24af"), looks := true }, kinds := [], alts := [], laidByText := true, laidKinds := [.sentinel, .sentinel, .sentinel, .sentinel, .sentinel, .sentinel, .sentinel, .sentinel, .sentinel, .sentinel, .sentinel, .sentinel, .sentinel, .sentinel, .sentinel, .sentinel, .sentinel, .sentinel, .sentinel, .sentinel, .sentinel, .sentinel, .sentinel, .sentinel, .sentinel, .sentinel, .sentinel, .sentinel, .sentinel, .sentinel, .sentinel, .sentinel, .sentinel, .sentinel, .sentinel, .sentinel, .sentinel, .sentinel, .sentinel, .sentinel, .sentinel, .sentinel, .data], laidTests := true, laidLooks := .later }
def SchedOwnUptoCardSaid : Prop := Claim7.holds Tryd.pinned (.plain (OpenSpec.upto schedOwnSpec)) schedOwnUptoCard
end Rows
end Go.Proofs.YtnohcbdnhpaafaaDoor
