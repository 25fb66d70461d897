/-
  culvertlaw27.MsgNil
-/
import Derived.Test.YtllioaclnkkhhabDoorMhA
import Derived.Test.YtllioaclnkkhhabDoorOpenB
namespace Go.Proofs.YtllioaclnkkhhabDoor
open Go.RowKit

set_option maxHeartbeats 1000000 in
theorem msgNil_walk {A : Nat → Addr} (x : Value) (ns : List Int) (w : World) (hs : Sents 76 codeVars A w) (_ : BytesArg w x ns) : Calls Tryd.prog 4 #[x] w fun e w' => e = .returned (.bool true) ∧ Below w.heap.size w w' := by
  have F := Aside.mk (fixed27 hs)
  have HS := Aside.mk hs
  clear hs
  go_enter Tryd.func4, Tryd.ntmps4
  go_wp2_with (first
    | (go_at_call 6; refine F.it.mono ?_; clear F; rintro e w1 ⟨rfl, B1⟩; have S1 := Aside.mk (HS.it.later B1.it))
    | (go_at_call 8; refine (feedM_nil S1.it _).mono ?_; rintro e w2 ⟨rfl, m, rfl⟩; have S2 := Aside.mk (S1.it.later ((Keeps.refl Nowhere w1).drewN m).bel))
    | (go_at_call 11; refine (code_sent S2.it 0 (by decide) (by decide)).mono ?_; rintro e w3 ⟨rfl, hw3⟩; rw [hw3]; clear hw3)
    | (go_at_call 12; refine (doneR_nil S2.it).mono ?_; rintro e w4 ⟨rfl, hw4⟩; rw [hw4]; clear hw4)
    | (go_at_call 9; refine (heldM_nil).mono ?_; rintro e w5 ⟨rfl, hw5⟩; rw [hw5]; clear hw5)
    | fail)
  go_ret
  exact ⟨rfl, B1.it.trans (((Keeps.refl Nowhere w1).drewN m).bel.mono B1.it.size)⟩
end Go.Proofs.YtllioaclnkkhhabDoor
