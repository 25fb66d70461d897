/-
  DERIVED. GIVEN WITH THE SEED: THE CARDS: each row of YtllioaclnkkhhabDoorRows.lean that lists a variable, with what it lists TIED to the program's text (the seventh form; the later family's looks); each row that meets fmt, with fmt's text TOLD by the authors' own Lean function (tested against real Go, not proved from fmt's source: count such statements apart). THE CARD IS WHAT COUNTS. Prove the row's statement (the work); the ties are given (YtllioaclnkkhhabDoorTie.lean); close each card by the builder's one call (the guide's Derived/Test/ToyasCard.lean, 'card_holds'). Laid BY PROGRAM, IN A SANDBOX (cutbox-door.mjs). By AI agents, Wed Nov 11 2026. No macro, syntax, notation, axiom, sorry.
-/
import Derived.Test.YtllioaclnkkhhabDoorRows
import GoSem.ClaimSeven
namespace Go.Proofs.YtllioaclnkkhhabDoor
namespace Rows

/-- THE TIED CARD OF 'culvertlaw27.MsgMost'. -/
def msgMostCard : Claim7 := { stood := { row := msgMostRow, standIns := [], harness := (true, "5b88423f3358908962296f484b1e2458475f8a0bd6c6dab285556735340611a2"), looks := true }, kinds := [], alts := [], laidByText := true, laidKinds := [.sentinel, .sentinel, .sentinel, .sentinel, .sentinel, .sentinel, .sentinel, .sentinel, .sentinel, .sentinel, .sentinel, .sentinel, .sentinel, .sentinel, .sentinel, .sentinel, .sentinel, .sentinel, .sentinel, .sentinel, .sentinel, .sentinel, .sentinel, .sentinel, .sentinel, .sentinel, .sentinel, .sentinel, .sentinel, .sentinel, .sentinel, .sentinel, .sentinel, .sentinel, .sentinel, .sentinel, .sentinel, .sentinel, .sentinel, .sentinel, .sentinel, .sentinel], laidTests := true, laidLooks := .later }
def MsgMostCardSaid : Prop := Claim7.holds Tryd.pinned (.plain (OpenSpec.ofChange msgMostSpec)) msgMostCard

/-- THE TIED CARD OF 'culvertlaw27.MsgNil'. -/
def msgNilCard : Claim7 := { stood := { row := msgNilRow, standIns := [], harness := (true, "5b88423f3358908962296f484b1e2458475f8a0bd6c6dab285556735340611a2"), looks := true }, kinds := [], alts := [], laidByText := true, laidKinds := [.sentinel, .sentinel, .sentinel, .sentinel, .sentinel, .sentinel, .sentinel, .sentinel, .sentinel, .sentinel, .sentinel, .sentinel, .sentinel, .sentinel, .sentinel, .sentinel, .sentinel, .sentinel, .sentinel, .sentinel, .sentinel, .sentinel, .sentinel, .sentinel, .sentinel, .sentinel, .sentinel, .sentinel, .sentinel, .sentinel, .sentinel, .sentinel, .sentinel, .sentinel, .sentinel, .sentinel, .sentinel, .sentinel, .sentinel, .sentinel, .sentinel, .sentinel], laidTests := true, laidLooks := .later }
def MsgNilCardSaid : Prop := Claim7.holds Tryd.pinned (.plain (OpenSpec.ofChange msgNilSpec)) msgNilCard

/-- THE TIED CARD OF 'culvertlaw27.MsgMemory'. -/
def msgMemoryCard : Claim7 := { stood := { row := msgMemoryRow, standIns := [], harness := (true, "5b88423f3358908962296f484b1e2458475f8a0bd6c6dab285556735340611a2"), looks := true }, kinds := [], alts := [], laidByText := true, laidKinds := [.sentinel, .sentinel, .sentinel, .sentinel, .sentinel, .sentinel, .sentinel, .sentinel, .sentinel, .sentinel, .sentinel, .sentinel, .sentinel, .sentinel, .sentinel, .sentinel, .sentinel, .sentinel, .sentinel, .sentinel, .sentinel, .sentinel, .sentinel, .sentinel, .sentinel, .sentinel, .sentinel, .sentinel, .sentinel, .sentinel, .sentinel, .sentinel, .sentinel, .sentinel, .sentinel, .sentinel, .sentinel, .sentinel, .sentinel, .sentinel, .sentinel, .sentinel], laidTests := true, laidLooks := .later }
def MsgMemoryCardSaid : Prop := Claim7.holds Tryd.pinned (.plain (OpenSpec.ofChange msgMemorySpec)) msgMemoryCard

/-- THE SECOND FORM's CARD OF 'culvertlaw27.MsgMost'. -/
def msgMostUptoCard : Claim7 := { stood := { row := msgMostUptoRow, standIns := [], harness := (true, "5b88423f3358908962296f484b1e2458475f8a0bd6c6dab285556735340611a2"), looks := true }, kinds := [], alts := [], laidByText := true, laidKinds := [.sentinel, .sentinel, .sentinel, .sentinel, .sentinel, .sentinel, .sentinel, .sentinel, .sentinel, .sentinel, .sentinel, .sentinel, .sentinel, .sentinel, .sentinel, .sentinel, .sentinel, .sentinel, .sentinel, .sentinel, .sentinel, .sentinel, .sentinel, .sentinel, .sentinel, .sentinel, .sentinel, .sentinel, .sentinel, .sentinel, .sentinel, .sentinel, .sentinel, .sentinel, .sentinel, .sentinel, .sentinel, .sentinel, .sentinel, .sentinel, .sentinel, .sentinel], laidTests := true, laidLooks := .later }
def MsgMostUptoCardSaid : Prop := Claim7.holds Tryd.pinned (.plain (OpenSpec.upto msgMostSpec)) msgMostUptoCard

/-- THE SECOND FORM's CARD OF 'culvertlaw27.MsgNil'. -/
def msgNilUptoCard : Claim7 := { stood := { row := msgNilUptoRow, standIns := [], harness := (true, "5b88423f3358908962296f484b1e2458475f8a0bd6c6dab285556735340611a2"), looks := true }, kinds := [], alts := [], laidByText := true, laidKinds := [.sentinel, .sentinel, .sentinel, .sentinel, .sentinel, .sentinel, .sentinel, .sentinel, .sentinel, .sentinel, .sentinel, .sentinel, .sentinel, .sentinel, .sentinel, .sentinel, .sentinel, .sentinel, .sentinel, .sentinel, .sentinel, .sentinel, .sentinel, .sentinel, .sentinel, .sentinel, .sentinel, .sentinel, .sentinel, .sentinel, .sentinel, .sentinel, .sentinel, .sentinel, .sentinel, .sentinel, .sentinel, .sentinel, .sentinel, .sentinel, .sentinel, .sentinel], laidTests := true, laidLooks := .later }
def MsgNilUptoCardSaid : Prop := Claim7.holds Tryd.pinned (.plain (OpenSpec.upto msgNilSpec)) msgNilUptoCard

/-- THE SECOND FORM's CARD OF 'culvertlaw27.MsgMemory'. -/
def msgMemoryUptoCard : Claim7 := { stood := { row := msgMemoryUptoRow, standIns := [], harness := (true, "5b88423f3358908962296f484b1e2458475f8a0bd6c6dab285556735340611a2"), looks := true }, kinds := [], alts := [], laidByText := true, laidKinds := [.sentinel, .sentinel, .sentinel, .sentinel, .sentinel, .sentinel, .sentinel, .sentinel, .sentinel, .sentinel, .sentinel, .sentinel, .sentinel, .sentinel, .sentinel, .sentinel, .sentinel, .sentinel, .sentinel, .sentinel, .sentinel, .sentinel, .sentinel, .sentinel, .sentinel, .sentinel, .sentinel, .sentinel, .sentinel, .sentinel, .sentinel, .sentinel, .sentinel, .sentinel, .sentinel, .sentinel, .sentinel, .sentinel, .sentinel, .sentinel, .sentinel, .sentinel], laidTests := true, laidLooks := .later }
def MsgMemoryUptoCardSaid : Prop := Claim7.holds Tryd.pinned (.plain (OpenSpec.upto msgMemorySpec)) msgMemoryUptoCard
end Rows
end Go.Proofs.YtllioaclnkkhhabDoor
