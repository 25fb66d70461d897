/-
  culvertlaw28: awake, act
-/
import Derived.Test.YthjeeianlgkaaaaDoorLuHlnn
import Derived.Test.YthjeeianlgkaaaaDoorOpenLu
namespace Go.Proofs.YthjeeianlgkaaaaDoor
open Go.RowKit Lulnn

variable {w w' w0 W : World} {own own' : Nat → Nat} {i c o : Nat} {room : Int} {L M : List Rx} {I : Nat → Prop} {A : Nat → Addr} {x : Rx} {z : Oz}

def L1 : List Rx := [⟨7, 70, 5, 9⟩]
set_option maxHeartbeats 2000000 in
theorem awake_ok (hs : Sents 144 codeVars A w) : Calls Tryd.prog 5 #[] w fun e w' => e = .returned (.bool true) ∧ Aside (Keeps Nowhere w w') := by
  have G := OnG.start hs
  have HG := Aside.mk G
  have N := Aside.mk (new_pos (fun _ => 0) 1 w (room := 5) (by omega) (by omega))
  clear G hs
  go_enter Tryd.func5, Tryd.ntmps5
  go_upto_region 2 with (first | (go_at_call 6; refine N.it.mono ?_; clear N; rintro e w1 ⟨c, rfl, C1, K1⟩) | fail)
  have G1 := Aside.mk (HG.it.sn (I := fun _ => False) (Sn.quiet K1.it 1) (fun x => x))
  have P := Aside.mk (put_o (x := ⟨7, 70, 5, 9⟩) C1.it ⟨⟨by decide, by decide⟩, ⟨by decide, by decide⟩, ⟨by decide, by decide⟩⟩ (by decide) (by decide) 2)
  go_upto_region 5 with (first | (go_at_call 21; refine P.it.mono ?_; clear P; rintro e w2 ⟨v2, own2, rfl, J2, S2⟩) | fail)
  have G2 := Aside.mk (G1.it.sn S2.it (by decide))
  have C2 : Aside (CaO own2 1 w2 c 5 L1) := ⟨J2.it.1⟩
  have T := Aside.mk (get_o (k := 7) C2.it (show I6 7 from ⟨by decide, by decide⟩) 8)
  rw [show gvV L1 7 8 = .int .i64 70 from rfl, show gotB L1 7 8 = true from by decide, show getL L1 7 8 = L1 from by decide] at T
  go_upto_region 6 with (first | (go_at_call 11; refine T.it.mono ?_; clear T; rintro e w3 ⟨rfl, C3, S3⟩) | fail)
  have G3 := Aside.mk (G2.it.sn S3.it (by decide))
  have F := Aside.mk (put_full G3.it.sents C3.it 7 (.int .i64 71) (W := 6) 9 (by decide) (by decide))
  go_upto_region 7 with (first | (go_at_call 21; refine F.it.mono ?_; clear F; rintro e w4 ⟨rfl, rfl⟩) | fail)
  have CD := Aside.mk (code_of G3.it.sents (Coded.mk 5 6 (by decide) (by decide) rfl))
  have LE := Aside.mk (len_o C3.it)
  rw [show L1.length = 1 from rfl] at LE
  obtain ⟨q1, q2, hv⟩ : ∃ q1 q2, v2 = .slice q1 0 q2 := by
    have := J2.it.2.1
    have e : (goneX 5 [] ⟨7, 70, 5, 9⟩).length = 0 := by decide
    rw [e] at this
    rcases this.2 with ⟨rfl, _⟩ | ⟨g, cap, cur, rfl, _⟩
    · exact ⟨_, _, rfl⟩
    · exact ⟨_, _, rfl⟩
  subst hv
  go_wp2_with (first | (go_at_call 7; refine CD.it.mono ?_; rintro e w5 ⟨rfl, rfl⟩) | (go_at_call 16; refine LE.it.mono ?_; rintro e w5 ⟨rfl, rfl⟩) | fail)
  go_ret
  exact ⟨rfl, ⟨Keeps.ofBelow G3.it.g.bel⟩⟩
end Go.Proofs.YthjeeianlgkaaaaDoor
