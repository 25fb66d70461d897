/-
  FeedNil.
-/
import Derived.Test.YtigcfonlcknpaabDoorFeedY
import Derived.Test.YtigcfonlcknpaabDoorOpenB
namespace Go.Proofs.YtigcfonlcknpaabDoor
open Go.RowKit

section

set_option maxHeartbeats 1000000 in
theorem feedNil_walk {A : Nat → Addr} (x : Value) (ns : List Int) (w : World) (B : Base A w) (_ : BytesArg w x ns) : Calls Tryd.prog 3 #[x] w fun e w' => e = .returned (.bool true) ∧ Below w.heap.size w w' := by
  have F := Aside.mk (fixed5 B)
  have BB := Aside.mk B
  clear B
  go_enter Tryd.func3, Tryd.ntmps3
  go_wp2_with (first
    | (go_at_call 5; refine F.it.mono ?_; rintro e w1 ⟨rfl, b1⟩; have B1 := Aside.mk b1; clear b1)
    | (go_at_call 6; refine (feed_nil (BB.it.later B1.it) _).mono ?_; rintro e w2 ⟨rfl, k2⟩; have B2 : Aside (Below w.heap.size w w2) := ⟨B1.it.trans (k2.bel.mono B1.it.size)⟩; clear k2)
    | (go_at_call 7; refine (code_sent (BB.it.later B2.it).s 0 (by decide) (by decide)).mono ?_; rintro e w3 ⟨rfl, rfl⟩)
    | (go_at_call 8; refine (held_nil _).mono ?_; rintro e w4 ⟨rfl, rfl⟩)
    | (go_at_call 9; refine (wants_nil _).mono ?_; rintro e w5 ⟨rfl, rfl⟩)
    | (go_at_call 10; refine (err_nil _).mono ?_; rintro e w6 ⟨rfl, rfl⟩))
  go_ret
  exact ⟨rfl, B2.it⟩
end
end Go.Proofs.YtigcfonlcknpaabDoor
