/-
  culvertlaw28: act
-/
import Derived.Test.YtcmgmhdlokcgbabDoorLuI
namespace Go.Proofs.YtcmgmhdlokcgbabDoor
open Go.RowKit Lulnn

variable {w w' w0 W : World} {own own' : Nat → Nat} {i c o : Nat} {room : Int} {L M : List Rx} {I : Nat → Prop} {A : Nat → Addr} {x : Rx} {z : Oz}

def Oz.rx (z : Oz) : Rx := ⟨z.k, z.v, z.w, z.u⟩
def mayP (room W : Int) : Bool := decide (0 ≤ W) && decide (W ≤ room)
def putB (room : Int) (L : List Rx) (z : Oz) : List Rx := if mayP room z.w = true then putL room L z.rx else L
def actL (room : Int) (L : List Rx) (z : Oz) : List Rx := if z.kd = 1 then putB room L z else if z.kd = 2 then getL L z.k z.u else if z.kd = 4 then dropL L z.k else if z.kd = 5 then stayL L z.u else L
theorem may_true {W : Int} (h : mayP room W = true) : 0 ≤ W ∧ W ≤ room := by
  unfold mayP at h
  simpa using h
theorem may_false {W : Int} (h : mayP room W = false) : W < 0 ∨ (0 ≤ W ∧ room < W) := by
  unfold mayP at h
  simp at h
  rcases Int.lt_or_le W 0 with e | e
  · exact .inl e
  · exact .inr ⟨e, h e⟩
theorem Oz.Ok.rx (h : z.Ok) (hw : 0 ≤ z.w) : z.rx.Ok := ⟨h.k, h.v, ⟨hw, h.w.2⟩, h.u⟩
theorem actL_len (room : Int) (L : List Rx) (z : Oz) : (actL room L z).length ≤ L.length + 1 := by
  unfold actL putB
  have h1 := putL_len room L z.rx
  have h2 := getL_len L z.k z.u
  have h3 := dropL_len (L := L) (k := z.k)
  have h4 := stayL_len L z.u
  repeat' split
  all_goals omega
/-- a Put, whatever it is: what it answers -/
theorem put_any (h : CaO own i w c room L) (hs : Sents 81 codeVars A w) (hz : z.Ok) (hmax : L.length * 8 ≤ 140737488355328) (o : Nat) :
    Calls Tryd.prog 11 #[ptr c, .int .i64 z.k, .int .i64 z.v, .int .i64 z.w, .int .i64 z.u] w fun e w' => ∃ qa qn qc ev own', e = .returned (.tuple #[.slice qa qn qc, ev]) ∧ Aside (CaO own' i w' c room (putB room L z)) ∧ Aside (Coded A ev (if z.w < 0 then 2 else if room < z.w then 6 else 0)) ∧ Aside (OwR own' o w' 3 1 (.slice qa qn qc) (if mayP room z.w = true then goneX room L z.rx else []).length (rk (if mayP room z.w = true then goneX room L z.rx else []))) ∧ Aside (Sn (fun k => k = i) own w own' w') := by
  cases hm : mayP room z.w with
  | true =>
    obtain ⟨h0, hr⟩ := may_true hm
    refine (put_o (x := z.rx) h (hz.rx h0) hr hmax o).mono ?_
    rintro e w' ⟨v, own', rfl, J, S⟩
    obtain ⟨qa, qn, qc, rfl⟩ := owns_shapeK J.it.2.1
    unfold putB
    rw [if_pos hm, if_neg (by omega), if_neg (by omega)]
    exact ⟨qa, qn, qc, _, own', rfl, ⟨J.it.1⟩, ⟨Coded.none⟩, ⟨by simpa using J.it.2⟩, S⟩
  | false =>
    have hp : putB room L z = L := by unfold putB; rw [if_neg (by rw [hm]; simp)]
    rw [hp]
    simp only [Bool.false_eq_true, if_false]
    rcases may_false hm with h0 | ⟨h0, hr⟩
    · refine (put_neg hs c z.k (.int .i64 z.v) z.u h0).mono ?_
      rintro e w' ⟨rfl, rfl⟩
      rw [if_pos h0]
      exact ⟨_, _, _, _, own, rfl, ⟨h⟩, ⟨Coded.mk 1 2 (by decide) (by decide) rfl⟩, ⟨OwR.zero⟩, ⟨Sn.refl _ _ _⟩⟩
    · refine (put_full hs h z.k (.int .i64 z.v) z.u h0 hr).mono ?_
      rintro e w' ⟨rfl, rfl⟩
      rw [if_neg (by omega), if_pos hr]
      exact ⟨_, _, _, _, own, rfl, ⟨h⟩, ⟨Coded.mk 5 6 (by decide) (by decide) rfl⟩, ⟨OwR.zero⟩, ⟨Sn.refl _ _ _⟩⟩
abbrev Oz.agg (z : Oz) : Value := .agg #[.int .i64 z.kd, .int .i64 z.k, .int .i64 z.v, .int .i64 z.w, .int .i64 z.u]
set_option maxHeartbeats 2000000 in
theorem act_ (h : CaO own i w c room L) (hs : Sents 81 codeVars A w) (hz : z.Ok) (hmax : L.length * 8 ≤ 140737488355328) :
    Calls Tryd.prog 7 #[ptr c, z.agg] w fun e w' => ∃ own', e = .returned (.tuple #[]) ∧ Aside (CaO own' i w' c room (actL room L z)) ∧ Aside (Sn (fun k => k = i) own w own' w') := by
  obtain ⟨W1, hW1⟩ : ∃ W1, w.alloc (.cells #[.int .i64 z.kd, .int .i64 z.k, .int .i64 z.v, .int .i64 z.w, .int .i64 z.u] 31) = W1 := ⟨_, rfl⟩
  obtain ⟨b, hb⟩ : ∃ b, w.heap.size = b := ⟨_, rfl⟩
  have K1 : Aside (Keeps Nowhere w W1) := ⟨by rw [← hW1]; exact (Keeps.refl _ _).alloc _⟩
  have C1 : Aside (Cells W1 b 31 z.cells) := ⟨by rw [← hW1, ← hb]; exact Cells.new w _ _⟩
  have hs1 := hs.later K1.it.bel
  have h1 := h.quiet K1.it
  have S1 : Aside (Sn (fun k => k = i) own w own W1) := ⟨Sn.same K1.it⟩
  have PT := Aside.mk (put_any h1 hs1 hz hmax 0)
  have GT := Aside.mk (get_o h1 (k := z.k) hz.k z.u)
  have DR := Aside.mk (drop_o h1 (k := z.k) hz.k)
  have EX := Aside.mk (expire_o h1 hmax z.u 0)
  have H1 := Aside.mk h1
  have g0 : W1.cell? ⟨b, 0, none⟩ = some (.int .i64 z.kd) := by rw [C1.it.cell]; rfl
  have g1 : W1.cell? ⟨b, 1, none⟩ = some (.int .i64 z.k) := by rw [C1.it.cell]; rfl
  have g2 : W1.cell? ⟨b, 2, none⟩ = some (.int .i64 z.v) := by rw [C1.it.cell]; rfl
  have g3 : W1.cell? ⟨b, 3, none⟩ = some (.int .i64 z.w) := by rw [C1.it.cell]; rfl
  have g4 : W1.cell? ⟨b, 4, none⟩ = some (.int .i64 z.u) := by rw [C1.it.cell]; rfl
  clear h hs h1 hs1 C1 hmax
  have HE : Aside (actL room L z = if z.kd = 1 then putB room L z else if z.kd = 2 then getL L z.k z.u else if z.kd = 4 then dropL L z.k else if z.kd = 5 then stayL L z.u else L) := ⟨rfl⟩
  obtain ⟨kd, k, v, W, u⟩ := z
  simp only at g0 g1 g2 g3 g4 PT GT DR EX HE ⊢
  go_enter Tryd.func7, Tryd.ntmps7
  go_upto_region 1 with fail
  clear hW1 hb
  by_cases e1 : kd = 1
  · rw [if_pos e1] at HE
    clear GT DR EX
    have q1 : (kd == 1) = true := by simp [e1]
    go_wp2_with (first | (go_at_call 11; refine PT.it.mono ?_; clear PT; rintro e w2 ⟨qa, qn, qc, ev, own', rfl, J, _, _, S⟩) | fail)
    go_end0
    exact ⟨own', rfl, by rw [HE.it]; exact J, ⟨S1.it.trans S.it⟩⟩
  · rw [if_neg e1] at HE
    have q1 : (kd == 1) = false := by simp [e1]
    clear PT
    by_cases e2 : kd = 2
    · rw [if_pos e2] at HE
      clear DR EX
      have q2 : (kd == 2) = true := by simp [e2]
      go_wp2_with (first | (go_at_call 15; refine GT.it.mono ?_; clear GT; rintro e w2 ⟨rfl, J, S⟩) | fail)
      go_end0
      exact ⟨own, rfl, by rw [HE.it]; exact J, ⟨S1.it.trans S.it⟩⟩
    · rw [if_neg e2] at HE
      have q2 : (kd == 2) = false := by simp [e2]
      clear GT
      by_cases e3 : kd = 4
      · rw [if_pos e3] at HE
        clear EX
        have q3 : (kd == 4) = true := by simp [e3]
        go_wp2_with (first | (go_at_call 18; refine DR.it.mono ?_; clear DR; rintro e w2 ⟨rfl, J, S⟩) | fail)
        go_end0
        exact ⟨own, rfl, by rw [HE.it]; exact J, ⟨S1.it.trans S.it⟩⟩
      · rw [if_neg e3] at HE
        have q3 : (kd == 4) = false := by simp [e3]
        clear DR
        by_cases e4 : kd = 5
        · rw [if_pos e4] at HE
          have q4 : (kd == 5) = true := by simp [e4]
          go_wp2_with (first | (go_at_call 12; refine EX.it.mono ?_; clear EX; rintro e w2 ⟨v, rfl, J, S⟩; obtain ⟨qa, qn, qc, rfl⟩ := owns_shapeK J.it.2.1) | fail)
          go_end0
          exact ⟨_, rfl, ⟨by rw [HE.it]; exact J.it.1⟩, ⟨S1.it.trans S.it⟩⟩
        · rw [if_neg e4] at HE
          have q4 : (kd == 5) = false := by simp [e4]
          go_wp2_with fail
          go_end0
          exact ⟨own, rfl, by rw [HE.it]; exact H1, S1⟩
end Go.Proofs.YtcmgmhdlokcgbabDoor
