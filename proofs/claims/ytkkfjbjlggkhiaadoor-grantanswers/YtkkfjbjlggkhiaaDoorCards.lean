/-
  DERIVED. GIVEN WITH THE SEED: THE CARDS: each row of YtkkfjbjlggkhiaaDoorRows.lean that lists a variable, with what it lists TIED to the program's text (the seventh form; the later family's looks); each row that meets fmt, with fmt's text TOLD by the authors' own Lean function (tested against real Go, not proved from fmt's source: count such statements apart). THE CARD IS WHAT COUNTS. Prove the row's statement (the work); the ties are given (YtkkfjbjlggkhiaaDoorTie.lean); close each card by the builder's one call (the guide's Derived/Test/ToyasCard.lean, 'card_holds'). Laid BY PROGRAM, IN A SANDBOX (cutbox-door.mjs). By AI agents, Wed Nov 11 2026. No macro, syntax, notation, axiom, sorry.
-/
import Derived.Test.YtkkfjbjlggkhiaaDoorRows
import GoSem.ClaimSeven
namespace Go.Proofs.YtkkfjbjlggkhiaaDoor
namespace Rows

/-- THE TIED CARD OF 'culvertlaw08.GrantNames'. -/
def grantNamesCard : Claim7 := { stood := { row := grantNamesRow, standIns := [], harness := (true, "eafb8f3f2f910d275df54facd5240c8e86c9f1b615e56b7d81e5e5c76ec2e831"), looks := true }, kinds := [], alts := [], laidByText := true, laidKinds := [.sentinel, .sentinel, .sentinel, .sentinel, .sentinel, .sentinel, .sentinel, .sentinel, .sentinel, .sentinel, .sentinel, .sentinel, .sentinel, .sentinel, .sentinel, .sentinel, .sentinel, .sentinel, .sentinel, .sentinel, .sentinel, .sentinel, .sentinel, .sentinel, .sentinel, .sentinel, .sentinel, .sentinel, .sentinel, .sentinel, .sentinel, .sentinel, .sentinel, .sentinel, .sentinel, .sentinel, .sentinel, .sentinel, .sentinel, .sentinel, .sentinel, .sentinel], laidTests := true, laidLooks := .later }
def GrantNamesCardSaid : Prop := Claim7.holds Tryd.pinned (.plain (OpenSpec.ofChange grantNamesSpec)) grantNamesCard

/-- THE TIED CARD OF 'culvertlaw08.GrantAnswers'. -/
def grantAnswersCard : Claim7 := { stood := { row := grantAnswersRow, standIns := [], harness := (true, "eafb8f3f2f910d275df54facd5240c8e86c9f1b615e56b7d81e5e5c76ec2e831"), looks := true }, kinds := [], alts := [], laidByText := true, laidKinds := [.sentinel, .sentinel, .sentinel, .sentinel, .sentinel, .sentinel, .sentinel, .sentinel, .sentinel, .sentinel, .sentinel, .sentinel, .sentinel, .sentinel, .sentinel, .sentinel, .sentinel, .sentinel, .sentinel, .sentinel, .sentinel, .sentinel, .sentinel, .sentinel, .sentinel, .sentinel, .sentinel, .sentinel, .sentinel, .sentinel, .sentinel, .sentinel, .sentinel, .sentinel, .sentinel, .sentinel, .sentinel, .sentinel, .sentinel, .sentinel, .sentinel, .sentinel], laidTests := true, laidLooks := .later }
def GrantAnswersCardSaid : Prop := Claim7.holds Tryd.pinned (.plain (OpenSpec.ofChange grantAnswersSpec)) grantAnswersCard

/-- THE TIED CARD OF 'culvertlaw08.GrantSum'. -/
def grantSumCard : Claim7 := { stood := { row := grantSumRow, standIns := [], harness := (true, "eafb8f3f2f910d275df54facd5240c8e86c9f1b615e56b7d81e5e5c76ec2e831"), looks := true }, kinds := [], alts := [], laidByText := true, laidKinds := [.sentinel, .sentinel, .sentinel, .sentinel], laidTests := true, laidLooks := .later }
def GrantSumCardSaid : Prop := Claim7.holds Tryd.pinned (.plain (OpenSpec.ofChange grantSumSpec)) grantSumCard

/-- THE TIED CARD OF 'culvertlaw08.GrantPair'. -/
def grantPairCard : Claim7 := { stood := { row := grantPairRow, standIns := [], harness := (true, "eafb8f3f2f910d275df54facd5240c8e86c9f1b615e56b7d81e5e5c76ec2e831"), looks := true }, kinds := [], alts := [], laidByText := true, laidKinds := [.sentinel, .sentinel, .sentinel, .sentinel, .sentinel, .sentinel], laidTests := true, laidLooks := .later }
def GrantPairCardSaid : Prop := Claim7.holds Tryd.pinned (.plain (OpenSpec.ofChange grantPairSpec)) grantPairCard

/-- THE TIED CARD OF 'culvertlaw08.GrantSplit'. -/
def grantSplitCard : Claim7 := { stood := { row := grantSplitRow, standIns := [], harness := (true, "eafb8f3f2f910d275df54facd5240c8e86c9f1b615e56b7d81e5e5c76ec2e831"), looks := true }, kinds := [], alts := [], laidByText := true, laidKinds := [.sentinel, .sentinel, .sentinel, .sentinel, .sentinel, .sentinel, .sentinel, .sentinel, .sentinel, .sentinel, .sentinel, .sentinel, .sentinel, .sentinel, .sentinel, .sentinel, .sentinel, .sentinel, .sentinel, .sentinel, .sentinel, .sentinel, .sentinel, .sentinel, .sentinel, .sentinel, .sentinel, .sentinel, .sentinel, .sentinel, .sentinel, .sentinel, .sentinel, .sentinel, .sentinel, .sentinel, .sentinel, .sentinel, .sentinel, .sentinel, .sentinel, .sentinel], laidTests := true, laidLooks := .later }
def GrantSplitCardSaid : Prop := Claim7.holds Tryd.pinned (.plain (OpenSpec.ofChange grantSplitSpec)) grantSplitCard

/-- THE TIED CARD OF 'culvertlaw08.GrantThreshold'. -/
def grantThresholdCard : Claim7 := { stood := { row := grantThresholdRow, standIns := [], harness := (true, "eafb8f3f2f910d275df54facd5240c8e86c9f1b615e56b7d81e5e5c76ec2e831"), looks := true }, kinds := [], alts := [], laidByText := true, laidKinds := [.sentinel, .sentinel, .sentinel, .sentinel, .sentinel, .sentinel, .sentinel, .sentinel, .sentinel, .sentinel, .sentinel, .sentinel, .sentinel, .sentinel, .sentinel, .sentinel, .sentinel, .sentinel, .sentinel, .sentinel, .sentinel, .sentinel, .sentinel, .sentinel, .sentinel, .sentinel, .sentinel, .sentinel, .sentinel, .sentinel, .sentinel, .sentinel, .sentinel, .sentinel, .sentinel, .sentinel, .sentinel, .sentinel, .sentinel, .sentinel, .sentinel, .sentinel], laidTests := true, laidLooks := .later }
def GrantThresholdCardSaid : Prop := Claim7.holds Tryd.pinned (.plain (OpenSpec.ofChange grantThresholdSpec)) grantThresholdCard

/-- THE SECOND FORM's CARD OF 'culvertlaw08.GrantNames'. -/
def grantNamesUptoCard : Claim7 := { stood := { row := grantNamesUptoRow, standIns := [], harness := (true, "eafb8f3f2f910d275df54facd5240c8e86c9f1b615e56b7d81e5e5c76ec2e831"), looks := true }, kinds := [], alts := [], laidByText := true, laidKinds := [.sentinel, .sentinel, .sentinel, .sentinel, .sentinel, .sentinel, .sentinel, .sentinel, .sentinel, .sentinel, .sentinel, .sentinel, .sentinel, .sentinel, .sentinel, .sentinel, .sentinel, .sentinel, .sentinel, .sentinel, .sentinel, .sentinel, .sentinel, .sentinel, .sentinel, .sentinel, .sentinel, .sentinel, .sentinel, .sentinel, .sentinel, .sentinel, .sentinel, .sentinel, .sentinel, .sentinel, .sentinel, .sentinel, .sentinel, .sentinel, .sentinel, .sentinel], laidTests := true, laidLooks := .later }
def GrantNamesUptoCardSaid : Prop := Claim7.holds Tryd.pinned (.plain (OpenSpec.upto grantNamesSpec)) grantNamesUptoCard

/-- THE SECOND FORM's CARD OF 'culvertlaw08.GrantAnswers'. -/
def grantAnswersUptoCard : Claim7 := { stood := { row := grantAnswersUptoRow, standIns := [], harness := (true, "eafb8f3f2f910d275df54facd5240c8e86c9f1b615e56b7d81e5e5c76ec2e831"), looks := true }, kinds := [], alts := [], laidByText := true, laidKinds := [.sentinel, .sentinel, .sentinel, .sentinel, .sentinel, .sentinel, .sentinel, .sentinel, .sentinel, .sentinel, .sentinel, .sentinel, .sentinel, .sentinel, .sentinel, .sentinel, .sentinel, .sentinel, .sentinel, .sentinel, .sentinel, .sentinel, .sentinel, .sentinel, .sentinel, .sentinel, .sentinel, .sentinel, .sentinel, .sentinel, .sentinel, .sentinel, .sentinel, .sentinel, .sentinel, .sentinel, .sentinel, .sentinel, .sentinel, .sentinel, .sentinel, .sentinel], laidTests := true, laidLooks := .later }
def GrantAnswersUptoCardSaid : Prop := Claim7.holds Tryd.pinned (.plain (OpenSpec.upto grantAnswersSpec)) grantAnswersUptoCard

/-- THE SECOND FORM's CARD OF 'culvertlaw08.GrantSum'. -/
def grantSumUptoCard : Claim7 := { stood := { row := grantSumUptoRow, standIns := [], harness := (true, "eafb8f3f2f910d275df54facd5240c8e86c9f1b615e56b7d81e5e5c76ec2e831"), looks := true }, kinds := [], alts := [], laidByText := true, laidKinds := [.sentinel, .sentinel, .sentinel, .sentinel], laidTests := true, laidLooks := .later }
def GrantSumUptoCardSaid : Prop := Claim7.holds Tryd.pinned (.plain (OpenSpec.upto grantSumSpec)) grantSumUptoCard

/-- THE SECOND FORM's CARD OF 'culvertlaw08.GrantPair'. -/
def grantPairUptoCard : Claim7 := { stood := { row := grantPairUptoRow, standIns := [], harness := (true, "eafb8f3f2f910d275df54facd5240c8e86c9f1b615e56b7d81e5e5c76ec2e831"), looks := true }, kinds := [], alts := [], laidByText := true, laidKinds := [.sentinel, .sentinel, .sentinel, .sentinel, .sentinel, .sentinel], laidTests := true, laidLooks := .later }
def GrantPairUptoCardSaid : Prop := Claim7.holds Tryd.pinned (.plain (OpenSpec.upto grantPairSpec)) grantPairUptoCard

/-- THE SECOND FORM's CARD OF 'culvertlaw08.GrantSplit'. -/
def grantSplitUptoCard : Claim7 := { stood := { row := grantSplitUptoRow, standIns := [], harness := (true, "eafb8f3f2f910d275df54facd5240c8e86c9f1b615e56b7d81e5e5c76ec2e831"), looks := true }, kinds := [], alts := [], laidByText := true, laidKinds := [.sentinel, .sentinel, .sentinel, .sentinel, .sentinel, .sentinel, .sentinel, .sentinel, .sentinel, .sentinel, .sentinel, .sentinel, .sentinel, .sentinel, .sentinel, .sentinel, .sentinel, .sentinel, .sentinel, .sentinel, .sentinel, .sentinel, .sentinel, .sentinel, .sentinel, .sentinel, .sentinel, .sentinel, .sentinel, .sentinel, .sentinel, .sentinel, .sentinel, .sentinel, .sentinel, .sentinel, .sentinel, .sentinel, .sentinel, .sentinel, .sentinel, .sentinel], laidTests := true, laidLooks := .later }
def GrantSplitUptoCardSaid : Prop := Claim7.holds Tryd.pinned (.plain (OpenSpec.upto grantSplitSpec)) grantSplitUptoCard

/-- THE SECOND FORM's CARD OF 'culvertlaw08.GrantThreshold'. -/
def grantThresholdUptoCard : Claim7 := { stood := { row := grantThresholdUptoRow, standIns := [], harness := (true, "eafb8f3f2f910d275df54facd5240c8e86c9f1b615e56b7d81e5e5c76ec2e831"), looks := true }, kinds := [], alts := [], laidByText := true, laidKinds := [.sentinel, .sentinel, .sentinel, .sentinel, .sentinel, .sentinel, .sentinel, .sentinel, .sentinel, .sentinel, .sentinel, .sentinel, .sentinel, .sentinel, .sentinel, .sentinel, .sentinel, .sentinel, .sentinel, .sentinel, .sentinel, .sentinel, .sentinel, .sentinel, .sentinel, .sentinel, .sentinel, .sentinel, .sentinel, .sentinel, .sentinel, .sentinel, .sentinel, .sentinel, .sentinel, .sentinel, .sentinel, .sentinel, .sentinel, .sentinel, .sentinel, .sentinel], laidTests := true, laidLooks := .later }
def GrantThresholdUptoCardSaid : Prop := Claim7.holds Tryd.pinned (.plain (OpenSpec.upto grantThresholdSpec)) grantThresholdUptoCard
end Rows
end Go.Proofs.YtkkfjbjlggkhiaaDoor
