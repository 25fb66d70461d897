/-
  culvertlaw16: awake; BacklogPlays
-/
import Derived.Test.YtolmiecbgkdlfaaDoorBkU
import Derived.Test.YtolmiecbgkdlfaaDoorOpenBk
namespace Go.Proofs.YtolmiecbgkdlfaaDoor
open Go.RowKit

variable {A : Nat → Addr} {w w' W w0 : World} {own own' : Nat → Nat} {i p most nb b wb : Nat} {L Lp Ld Ln : List Nat} {v vn : Value} {I : Nat → Prop} {kd m : Int} {id : Nat}

set_option maxHeartbeats 1000000 in
theorem awake16 (hs : Sents 92 codeVars A w) : Calls Tryd.prog 6 #[] w fun e w' => e = .returned (.bool true) ∧ Aside (Keeps Nowhere w w') := by
  have G0 := Aside.mk (OnG.start hs)
  have N := Aside.mk (bnew_ok 1 (by decide) (by decide) w (fun _ => 0) 1)
  clear hs
  go_enter Tryd.func6, Tryd.ntmps6
  go_upto_region 2 with (go_at_call 7; refine N.it.mono ?_; rintro e w1 ⟨p, rfl, T1, _, K1⟩)
  have G1 := Aside.mk (G0.it.sn (I := fun _ => False) (Sn.quiet K1.it 1) (fun x => x))
  generalize give (fun _ => 0) w.heap.size 1 = own1 at T1 G1
  have P1 := Aside.mk (bput T1.it 7 G1.it.sents)
  clear N G0
  go_upto_region 4 with (first
    | (go_at_call 12; refine P1.it.mono ?_; clear P1; rintro e w3 ⟨ev3, rfl, C3, X3⟩; have e3 : ev3 = .nilIface := Coded.zero C3.out; subst e3)
    | fail)
  obtain ⟨own3, t3, s3⟩ := X3.it
  have T3 := Aside.mk t3
  have G3 := Aside.mk (G1.it.sn s3 (by decide))
  have H3 := Aside.mk (bhead t3)
  clear X3 C3 G1 T1 t3 s3
  go_upto_region 5 with (first
    | (go_at_call 16; refine H3.it.mono ?_; clear H3; rintro e w4 ⟨rfl, K4⟩)
    | fail)
  have T4 := Aside.mk (T3.it.quiet K4.it)
  have G4 := Aside.mk (G3.it.quiet K4.it)
  have P4 := Aside.mk (bput T4.it 3 G4.it.sents)
  clear T3 G3
  go_wp2_with (first
    | (go_at_call 9; refine (code_of S5.it C5.out).mono ?_; rintro e w6 ⟨rfl, hw6⟩; subst hw6)
    | (go_at_call 12; refine P4.it.mono ?_; clear P4; rintro e w5 ⟨ev5, rfl, C5, X5⟩; obtain ⟨own5, t5, s5⟩ := X5.it; have G5 := Aside.mk (G4.it.sn s5 (by decide)); have S5 := Aside.mk G5.it.sents; clear t5 s5 X5)
    | fail)
  go_ret
  exact ⟨rfl, ⟨Keeps.ofBelow G5.it.g.bel⟩⟩
end Go.Proofs.YtolmiecbgkdlfaaDoor
