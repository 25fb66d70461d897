/-
  culvertlaw03.wakes
-/
import Derived.Test.YtnljgklmaljfjaaDoorFifoOint
namespace Go.Proofs.YtnljgklmaljfjaaDoor
open Go.RowKit Fint

theorem wakes_ok {A : Nat → Addr} (w : World) (hs : Sents 129 codeVars A w) : Calls Tryd.prog 5 #[] w fun e w' => e = .returned (.bool true) ∧ Aside (Below w.heap.size w w') := by
  have HS : Aside _ := ⟨hs⟩
  clear hs
  go_enter Tryd.func5, Tryd.ntmps5
  go_wp2_with (go_at_call 20; refine (new_o w 2 5 (by decide) (by decide) (fun _ => 0) 1).mono ?_; rintro e w1 ⟨p, rfl, q1, k1⟩)
  have G1 : Aside (Ground w.heap.size w (give (fun _ => 0) w.heap.size 1) w1) := ⟨(Ground.quiet ⟨fun _ _ => rfl, Below.refl _ _, Nat.le_refl _⟩ k1.it).give _ _ (Nat.le_refl _)⟩
  refine (all_o q1.it (by decide)).mono ?_
  rintro e w2 ⟨b, rfl, _, k2⟩
  have q2 : Aside _ := ⟨q1.it.quiet k2.it⟩
  have G2 : Aside _ := ⟨G1.it.quiet k2.it⟩
  have nn := walk_not_nil w2 b
  clear q1 G1 k1 k2
  go_wp2_with fail
  refine (put_o (HS.it.later G2.it.bel) q2.it 7 3 (by decide)).mono ?_
  rintro e w3 ⟨er3, rfl, e3, q3, k3⟩
  have G3 : Aside _ := ⟨G2.it.step k3.it (by decide) 1⟩
  obtain rfl : er3 = .nilIface := by
    rcases e3 with ⟨h, _⟩ | ⟨i, _, _, _, h⟩
    · exact h
    · have : putK 2 5 [] 3 = 0 := by decide
      omega
  clear q2 G2 k3 e3
  go_wp2_with fail
  refine (put_o (HS.it.later G3.it.bel) q3.it 8 3 (by decide)).mono ?_
  rintro e w4 ⟨er4, rfl, e4, q4', k4⟩
  have q4 : Aside (FifoO _ 1 w4 p 2 5 [(7, 3)]) := ⟨q4'.it⟩
  have G4 : Aside _ := ⟨G3.it.step k4.it (by decide) 1⟩
  have E4 : Aside (Coded A er4 6) := ⟨e4⟩
  clear q3 G3 k4 e4 q4'
  go_wp2_with fail
  refine (head_o q4.it).mono ?_
  rintro e w5 ⟨rfl, k5⟩
  have q5 : Aside _ := ⟨q4.it.quiet k5.it⟩
  have G5 : Aside _ := ⟨G4.it.quiet k5.it⟩
  clear q4 G4 k5
  go_wp2_with fail
  refine (code_of (HS.it.later G5.it.bel) E4.it).mono ?_
  rintro e w6 ⟨rfl, rfl⟩
  go_wp2_with fail
  refine (len_o q5.it).mono ?_
  rintro e w7 ⟨rfl, k7⟩
  have q7 : Aside _ := ⟨q5.it.quiet k7⟩
  have G7 : Aside _ := ⟨G5.it.quiet k7⟩
  clear k7
  go_wp2_with fail
  refine (weight_o q7.it).mono ?_
  rintro e w8 ⟨rfl, rfl⟩
  go_wp2
  go_ret
  exact ⟨rfl, ⟨G7.it.bel⟩⟩
end Go.Proofs.YtnljgklmaljfjaaDoor
