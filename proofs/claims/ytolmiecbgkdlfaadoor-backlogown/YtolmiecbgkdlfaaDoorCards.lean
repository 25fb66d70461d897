/-
  DERIVED. GIVEN WITH THE SEED: THE CARDS: each row of YtolmiecbgkdlfaaDoorRows.lean that lists a variable, with what it lists TIED to the program's text (the seventh form; the later family's looks); each row that meets fmt, with fmt's text TOLD by the authors' own Lean function (tested against real Go, not proved from fmt's source: count such statements apart). THE CARD IS WHAT COUNTS. Prove the row's statement (the work); the ties are given (YtolmiecbgkdlfaaDoorTie.lean); close each card by the builder's one call (the guide's Derived/Test/ToyasCard.lean, 'card_holds'). Laid BY PROGRAM, IN A SANDBOX (cutbox-door.mjs). By AI agents, Wed Nov 11 2026. No macro, syntax, notation, axiom, sorry.
-/
import Derived.Test.YtolmiecbgkdlfaaDoorRows
import GoSem.ClaimSeven
namespace Go.Proofs.YtolmiecbgkdlfaaDoor
namespace Rows

/-- THE TIED CARD OF 'culvertlaw16.BacklogPlays'. -/
def backlogPlaysCard : Claim7 := { stood := { row := backlogPlaysRow, standIns := [], harness := (true, "991b718e805bb02c3d736c2e3b62d2e9e2d6f6f666a0bd2d8a6b8fe71ee20ba1"), looks := true }, kinds := [], alts := [], laidByText := true, laidKinds := [.sentinel, .sentinel, .sentinel, .sentinel, .sentinel, .sentinel, .sentinel, .sentinel, .sentinel, .sentinel, .sentinel, .sentinel, .sentinel, .sentinel, .sentinel, .sentinel, .sentinel, .sentinel, .sentinel, .sentinel, .sentinel, .sentinel, .sentinel, .sentinel, .sentinel, .sentinel, .sentinel, .sentinel, .sentinel, .sentinel, .sentinel, .sentinel, .sentinel, .sentinel, .sentinel, .sentinel, .sentinel, .sentinel, .sentinel, .sentinel, .sentinel, .sentinel], laidTests := true, laidLooks := .later }
def BacklogPlaysCardSaid : Prop := Claim7.holds Tryd.pinned (.plain (OpenSpec.ofChange backlogPlaysSpec)) backlogPlaysCard

/-- THE TIED CARD OF 'culvertlaw16.BacklogOrder'. -/
def backlogOrderCard : Claim7 := { stood := { row := backlogOrderRow, standIns := [], harness := (true, "991b718e805bb02c3d736c2e3b62d2e9e2d6f6f666a0bd2d8a6b8fe71ee20ba1"), looks := true }, kinds := [], alts := [], laidByText := true, laidKinds := [.sentinel, .sentinel, .sentinel, .sentinel, .sentinel, .sentinel, .sentinel, .sentinel, .sentinel, .sentinel, .sentinel, .sentinel, .sentinel, .sentinel, .sentinel, .sentinel, .sentinel, .sentinel, .sentinel, .sentinel, .sentinel, .sentinel, .sentinel, .sentinel, .sentinel, .sentinel, .sentinel, .sentinel, .sentinel, .sentinel, .sentinel, .sentinel, .sentinel, .sentinel, .sentinel, .sentinel, .sentinel, .sentinel, .sentinel, .sentinel, .sentinel, .sentinel], laidTests := true, laidLooks := .later }
def BacklogOrderCardSaid : Prop := Claim7.holds Tryd.pinned (.plain (OpenSpec.ofChange backlogOrderSpec)) backlogOrderCard

/-- THE TIED CARD OF 'culvertlaw16.BacklogOwn'. -/
def backlogOwnCard : Claim7 := { stood := { row := backlogOwnRow, standIns := [], harness := (true, "991b718e805bb02c3d736c2e3b62d2e9e2d6f6f666a0bd2d8a6b8fe71ee20ba1"), looks := true }, kinds := [], alts := [], laidByText := true, laidKinds := [.sentinel, .sentinel, .sentinel, .sentinel, .sentinel, .sentinel, .sentinel, .sentinel, .sentinel, .sentinel, .sentinel, .sentinel, .sentinel, .sentinel, .sentinel, .sentinel, .sentinel, .sentinel, .sentinel, .sentinel, .sentinel, .sentinel, .sentinel, .sentinel, .sentinel, .sentinel, .sentinel, .sentinel, .sentinel, .sentinel, .sentinel, .sentinel, .sentinel, .sentinel, .sentinel, .sentinel, .sentinel, .sentinel, .sentinel, .sentinel, .sentinel, .sentinel], laidTests := true, laidLooks := .later }
def BacklogOwnCardSaid : Prop := Claim7.holds Tryd.pinned (.plain (OpenSpec.ofChange backlogOwnSpec)) backlogOwnCard

/-- THE SECOND FORM's CARD OF 'culvertlaw16.BacklogPlays'. -/
def backlogPlaysUptoCard : Claim7 := { stood := { row := backlogPlaysUptoRow, standIns := [], harness := (true, "991b718e805bb02c3d736c2e3b62d2e9e2d6f6f666a0bd2d8a6b8fe71ee20ba1"), looks := true }, kinds := [], alts := [], laidByText := true, laidKinds := [.sentinel, .sentinel, .sentinel, .sentinel, .sentinel, .sentinel, .sentinel, .sentinel, .sentinel, .sentinel, .sentinel, .sentinel, .sentinel, .sentinel, .sentinel, .sentinel, .sentinel, .sentinel, .sentinel, .sentinel, .sentinel, .sentinel, .sentinel, .sentinel, .sentinel, .sentinel, .sentinel, .sentinel, .sentinel, .sentinel, .sentinel, .sentinel, .sentinel, .sentinel, .sentinel, .sentinel, .sentinel, .sentinel, .sentinel, .sentinel, .sentinel, .sentinel], laidTests := true, laidLooks := .later }
def BacklogPlaysUptoCardSaid : Prop := Claim7.holds Tryd.pinned (.plain (OpenSpec.upto backlogPlaysSpec)) backlogPlaysUptoCard

/-- THE SECOND FORM's CARD OF 'culvertlaw16.BacklogOrder'. -/
def backlogOrderUptoCard : Claim7 := { stood := { row := backlogOrderUptoRow, standIns := [], harness := (true, "991b718e805bb02c3d736c2e3b62d2e9e2d6f6f666a0bd2d8a6b8fe71ee20ba1"), looks := true }, kinds := [], alts := [], laidByText := true, laidKinds := [.sentinel, .sentinel, .sentinel, .sentinel, .sentinel, .sentinel, .sentinel, .sentinel, .sentinel, .sentinel, .sentinel, .sentinel, .sentinel, .sentinel, .sentinel, .sentinel, .sentinel, .sentinel, .sentinel, .sentinel, .sentinel, .sentinel, .sentinel, .sentinel, .sentinel, .sentinel, .sentinel, .sentinel, .sentinel, .sentinel, .sentinel, .sentinel, .sentinel, .sentinel, .sentinel, .sentinel, .sentinel, .sentinel, .sentinel, .sentinel, .sentinel, .sentinel], laidTests := true, laidLooks := .later }
def BacklogOrderUptoCardSaid : Prop := Claim7.holds Tryd.pinned (.plain (OpenSpec.upto backlogOrderSpec)) backlogOrderUptoCard

/-- THE SECOND FORM's CARD OF 'culvertlaw16.BacklogOwn'. -/
def backlogOwnUptoCard : Claim7 := { stood := { row := backlogOwnUptoRow, standIns := [], harness := (true, "991b718e805bb02c3d736c2e3b62d2e9e2d6f6f666a0bd2d8a6b8fe71ee20ba1"), looks := true }, kinds := [], alts := [], laidByText := true, laidKinds := [.sentinel, .sentinel, .sentinel, .sentinel, .sentinel, .sentinel, .sentinel, .sentinel, .sentinel, .sentinel, .sentinel, .sentinel, .sentinel, .sentinel, .sentinel, .sentinel, .sentinel, .sentinel, .sentinel, .sentinel, .sentinel, .sentinel, .sentinel, .sentinel, .sentinel, .sentinel, .sentinel, .sentinel, .sentinel, .sentinel, .sentinel, .sentinel, .sentinel, .sentinel, .sentinel, .sentinel, .sentinel, .sentinel, .sentinel, .sentinel, .sentinel, .sentinel], laidTests := true, laidLooks := .later }
def BacklogOwnUptoCardSaid : Prop := Claim7.holds Tryd.pinned (.plain (OpenSpec.upto backlogOwnSpec)) backlogOwnUptoCard
end Rows
end Go.Proofs.YtolmiecbgkdlfaaDoor
