/-
  FeedNames.
-/
import Derived.Test.YtigcfonlcknpaaaDoorFeedA
namespace Go.Proofs.YtigcfonlcknpaaaDoor
open Go.RowKit

theorem sents_drewN {A : Nat → Addr} {w : World} (hs : Sents 132 codeVars A w) (n : Nat) : Sents 132 codeVars A (w.drewN n) := hs.later ((Keeps.refl Nowhere w).drewN n).bel
set_option maxHeartbeats 2000000 in
theorem feedNames_walk {A : Nat → Addr} (w : World) (hs : Sents 132 codeVars A w) :
    Calls Tryd.prog 3 #[] w fun e w' => e = .returned (.bool true) ∧ Below w.heap.size w w' := by
  have S := Aside.mk hs
  have N0 := Aside.mk (new_bad 0 w hs (.inl (by decide)))
  have N1 := Aside.mk (fun W h => new_bad (A := A) 65537 W h (.inr (by decide)))
  have N2 := Aside.mk (fun W => new_ok 65536 W (by decide) (by decide))
  clear hs
  go_enter Tryd.func3, Tryd.ntmps3
  go_wp2_with (first
    | (go_at_call_of 9 (Value.int IntKind.i64 0); refine N0.it.mono ?_; rintro e w1 ⟨rfl, n1, e1⟩; have K1 : Aside (Keeps Nowhere w w1) := ⟨e1 ▸ (Keeps.refl _ _).drewN n1⟩; have S1 := Aside.mk (S.it.later K1.it.bel); clear e1)
    | (go_at_call_of 9 (Value.int IntKind.i64 65537); refine (N1.it _ S1.it).mono ?_; rintro e w2 ⟨rfl, n2, e2⟩; have K2 : Aside (Keeps Nowhere w w2) := ⟨e2 ▸ K1.it.drewN n2⟩; have S2 := Aside.mk (S.it.later K2.it.bel); clear e2)
    | (go_at_call_of 9 (Value.int IntKind.i64 65536); refine (N2.it _).mono ?_; rintro e w3 ⟨rfl, e3⟩; have K3 : Aside (Keeps Nowhere w w3) := ⟨e3 ▸ K2.it.alloc _⟩; have D3 : Aside (DecIn w3 w2.heap.size 65536 (.slice none 0 0) [] 0 0 0 0 0 (.pointer none)) := ⟨⟨e3 ▸ Cells.new _ _ _, World.ownsRow_nil _ _ _ _⟩⟩; have S3 := Aside.mk (S.it.later K3.it.bel); clear e3)
    | (go_at_call 10; refine (code_sent S3.it 1 (by decide) (by decide)).mono ?_; rintro e w4 ⟨rfl, rfl⟩)
    | (go_at_call 11; refine (held_any D3.it).mono ?_; rintro e w5 ⟨rfl, n5, e5⟩; have K5 : Aside (Keeps Nowhere w w5) := ⟨e5 ▸ K3.it.drewN n5⟩; have D5 : Aside (DecIn w5 w2.heap.size 65536 (.slice none 0 0) [] 0 0 0 0 0 (.pointer none)) := ⟨e5 ▸ D3.it.quiet ((Keeps.refl _ _).drewN n5)⟩; clear e5)
    | (go_at_call 12; refine (wants_live D5.it (by decide) (by decide) (by decide)).mono ?_; rintro e w6 ⟨rfl, k6⟩; have K6 : Aside (Keeps Nowhere w w6) := ⟨K5.it.next k6 (fun _ e _ => e)⟩; have D6 : Aside (DecIn w6 w2.heap.size 65536 (.slice none 0 0) [] 0 0 0 0 0 (.pointer none)) := ⟨D5.it.quiet k6⟩; clear k6)
    | (go_at_call 13; refine (err_live D6.it.c).mono ?_; rintro e w7 ⟨rfl, n7, e7⟩; have K7 : Aside (Keeps Nowhere w w7) := ⟨e7 ▸ K6.it.drewN n7⟩; clear e7))
  go_ret
  exact ⟨rfl, K7.it.bel⟩
end Go.Proofs.YtigcfonlcknpaaaDoor
