/-
  DERIVED. GIVEN WITH THE SEED: THE CARDS: each row of YtcmgmhdlokcgbabDoorRows.lean that lists a variable, with what it lists TIED to the program's text (the seventh form; the later family's looks); each row that meets fmt, with fmt's text TOLD by the authors' own Lean function (tested against real Go, not proved from fmt's source: count such statements apart). THE CARD IS WHAT COUNTS. Prove the row's statement (the work); the ties are given (YtcmgmhdlokcgbabDoorTie.lean); close each card by the builder's one call (the guide's Derived/Test/ToyasCard.lean, 'card_holds'). Laid BY PROGRAM, IN A SANDBOX (cutbox-door.mjs). By AI agents, Wed Nov 11 2026. No macro, syntax, notation, axiom, sorry.
-/
import Derived.Test.YtcmgmhdlokcgbabDoorRows
import GoSem.ClaimSeven
namespace Go.Proofs.YtcmgmhdlokcgbabDoor
namespace Rows

/-- THE TIED CARD OF 'culvertlaw28.LruTwo'. -/
def lruTwoCard : Claim7 := { stood := { row := lruTwoRow, standIns := [], harness := (true, "f9b46cb134ecbcb5d32b6b8f791e4bf4f5decaa587c54e7211822eb9349d64e1"), looks := true }, kinds := [], alts := [], laidByText := true, laidKinds := [.sentinel, .sentinel, .sentinel, .sentinel, .sentinel, .sentinel, .sentinel, .sentinel, .sentinel, .sentinel, .sentinel, .sentinel, .sentinel, .sentinel, .sentinel, .sentinel, .sentinel, .sentinel, .sentinel, .sentinel, .sentinel, .sentinel, .sentinel, .sentinel, .sentinel, .sentinel, .sentinel, .sentinel, .sentinel, .sentinel, .sentinel, .sentinel, .sentinel, .sentinel, .sentinel, .sentinel, .sentinel, .sentinel, .sentinel, .sentinel, .sentinel, .sentinel], laidTests := true, laidLooks := .later }
def LruTwoCardSaid : Prop := Claim7.holds Tryd.pinned (.plain (OpenSpec.ofChange lruTwoSpec)) lruTwoCard

/-- THE TIED CARD OF 'culvertlaw28.LruOwn'. -/
def lruOwnCard : Claim7 := { stood := { row := lruOwnRow, standIns := [], harness := (true, "f9b46cb134ecbcb5d32b6b8f791e4bf4f5decaa587c54e7211822eb9349d64e1"), looks := true }, kinds := [], alts := [], laidByText := true, laidKinds := [.sentinel, .sentinel, .sentinel, .sentinel, .sentinel, .sentinel, .sentinel, .sentinel, .sentinel, .sentinel, .sentinel, .sentinel, .sentinel, .sentinel, .sentinel, .sentinel, .sentinel, .sentinel, .sentinel, .sentinel, .sentinel, .sentinel, .sentinel, .sentinel, .sentinel, .sentinel, .sentinel, .sentinel, .sentinel, .sentinel, .sentinel, .sentinel, .sentinel, .sentinel, .sentinel, .sentinel, .sentinel, .sentinel, .sentinel, .sentinel, .sentinel, .sentinel], laidTests := true, laidLooks := .later }
def LruOwnCardSaid : Prop := Claim7.holds Tryd.pinned (.plain (OpenSpec.ofChange lruOwnSpec)) lruOwnCard

/-- THE SECOND FORM's CARD OF 'culvertlaw28.LruTwo'. -/
def lruTwoUptoCard : Claim7 := { stood := { row := lruTwoUptoRow, standIns := [], harness := (true, "f9b46cb134ecbcb5d32b6b8f791e4bf4f5decaa587c54e7211822eb9349d64e1"), looks := true }, kinds := [], alts := [], laidByText := true, laidKinds := [.sentinel, .sentinel, .sentinel, .sentinel, .sentinel, .sentinel, .sentinel, .sentinel, .sentinel, .sentinel, .sentinel, .sentinel, .sentinel, .sentinel, .sentinel, .sentinel, .sentinel, .sentinel, .sentinel, .sentinel, .sentinel, .sentinel, .sentinel, .sentinel, .sentinel, .sentinel, .sentinel, .sentinel, .sentinel, .sentinel, .sentinel, .sentinel, .sentinel, .sentinel, .sentinel, .sentinel, .sentinel, .sentinel, .sentinel, .sentinel, .sentinel, .sentinel], laidTests := true, laidLooks := .later }
def LruTwoUptoCardSaid : Prop := Claim7.holds Tryd.pinned (.plain (OpenSpec.upto lruTwoSpec)) lruTwoUptoCard

/-- THE SECOND FORM's CARD OF 'culvertlaw28.LruOwn'. -/
def lruOwnUptoCard : Claim7 := { stood := { row := lruOwnUptoRow, standIns := [], harness := (true, "f9b46cb134ecbcb5d32b6b8f791e4bf4f5decaa587c54e7211822eb9349d64e1"), looks := true }, kinds := [], alts := [], laidByText := true, laidKinds := [.sentinel, .sentinel, .sentinel, .sentinel, .sentinel, .sentinel, .sentinel, .sentinel, .sentinel, .sentinel, .sentinel, .sentinel, .sentinel, .sentinel, .sentinel, .sentinel, .sentinel, .sentinel, .sentinel, .sentinel, .sentinel, .sentinel, .sentinel, .sentinel, .sentinel, .sentinel, .sentinel, .sentinel, .sentinel, .sentinel, .sentinel, .sentinel, .sentinel, .sentinel, .sentinel, .sentinel, .sentinel, .sentinel, .sentinel, .sentinel, .sentinel, .sentinel], laidTests := true, laidLooks := .later }
def LruOwnUptoCardSaid : Prop := Claim7.holds Tryd.pinned (.plain (OpenSpec.upto lruOwnSpec)) lruOwnUptoCard
end Rows
end Go.Proofs.YtcmgmhdlokcgbabDoor
