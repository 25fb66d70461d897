/-
  culvertlaw28: act
-/
import Derived.Test.YthjeeianlgkaaaaDoorLuI
namespace Go.Proofs.YthjeeianlgkaaaaDoor
open Go.RowKit Lulnn

variable {w w' w0 W : World} {own own' : Nat → Nat} {i c o : Nat} {room : Int} {L M : List Rx} {I : Nat → Prop} {A : Nat → Addr} {x : Rx} {z : Oz}

def Oz.rx (z : Oz) : Rx := ⟨z.k, z.v, z.w, z.u⟩
def mayP (room W : Int) : Bool := decide (0 ≤ W) && decide (W ≤ room)
def putB (room : Int) (L : List Rx) (z : Oz) : List Rx := if mayP room z.w = true then putL room L z.rx else L
def actL (room : Int) (L : List Rx) (z : Oz) : List Rx := if z.kd = 1 then putB room L z else if z.kd = 2 then getL L z.k z.u else if z.kd = 4 then dropL L z.k else if z.kd = 5 then stayL L z.u else L
theorem may_true {W : Int} (h : mayP room W = true) : 0 ≤ W ∧ W ≤ room := by
  unfold mayP at h
  simpa using h
theorem may_false {W : Int} (h : mayP room W = false) : W < 0 ∨ (0 ≤ W ∧ room < W) := by
  unfold mayP at h
  simp at h
  rcases Int.lt_or_le W 0 with e | e
  · exact .inl e
  · exact .inr ⟨e, h e⟩
theorem Oz.Ok.rx (h : z.Ok) (hw : 0 ≤ z.w) : z.rx.Ok := ⟨h.k, ⟨hw, h.w.2⟩, h.u⟩
theorem actL_len (room : Int) (L : List Rx) (z : Oz) : (actL room L z).length ≤ L.length + 1 := by
  unfold actL putB
  have h1 := putL_len room L z.rx
  have h2 := getL_len L z.k z.u
  have h3 := dropL_len (L := L) (k := z.k)
  have h4 := stayL_len L z.u
  repeat' split
  all_goals omega
/-- a Put, whatever it is: what it answers -/
theorem put_any (h : CaO own i w c room L) (hs : Sents 144 codeVars A w) (hz : z.Ok) (hmax : L.length * 8 ≤ 140737488355328) (o : Nat) :
    Calls Tryd.prog 21 #[ptr c, .int .i64 z.k, .int .i64 z.v, .int .i64 z.w, .int .i64 z.u] w fun e w' => ∃ qa qn qc ev own', e = .returned (.tuple #[.slice qa qn qc, ev]) ∧ Aside (CaO own' i w' c room (putB room L z)) ∧ Aside (Coded A ev (if z.w < 0 then 2 else if room < z.w then 6 else 0)) ∧ Aside (OwR own' o w' 3 1 (.slice qa qn qc) (if mayP room z.w = true then goneX room L z.rx else []).length (rk (if mayP room z.w = true then goneX room L z.rx else []))) ∧ Aside (Sn (fun k => k = i) own w own' w') := by
  cases hm : mayP room z.w with
  | true =>
    obtain ⟨h0, hr⟩ := may_true hm
    refine (put_o (x := z.rx) h (hz.rx h0) hr hmax o).mono ?_
    rintro e w' ⟨v, own', rfl, J, S⟩
    obtain ⟨qa, qn, qc, rfl⟩ := owns_shapeK J.it.2.1
    unfold putB
    rw [if_pos hm, if_neg (by omega), if_neg (by omega)]
    exact ⟨qa, qn, qc, _, own', rfl, ⟨J.it.1⟩, ⟨Coded.none⟩, ⟨by simpa using J.it.2⟩, S⟩
  | false =>
    have hp : putB room L z = L := by unfold putB; rw [if_neg (by rw [hm]; simp)]
    rw [hp]
    simp only [Bool.false_eq_true, if_false]
    rcases may_false hm with h0 | ⟨h0, hr⟩
    · refine (put_neg hs c z.k (.int .i64 z.v) z.u h0).mono ?_
      rintro e w' ⟨rfl, rfl⟩
      rw [if_pos h0]
      exact ⟨_, _, _, _, own, rfl, ⟨h⟩, ⟨Coded.mk 1 2 (by decide) (by decide) rfl⟩, ⟨OwR.zero⟩, ⟨Sn.refl _ _ _⟩⟩
    · refine (put_full hs h z.k (.int .i64 z.v) z.u h0 hr).mono ?_
      rintro e w' ⟨rfl, rfl⟩
      rw [if_neg (by omega), if_pos hr]
      exact ⟨_, _, _, _, own, rfl, ⟨h⟩, ⟨Coded.mk 5 6 (by decide) (by decide) rfl⟩, ⟨OwR.zero⟩, ⟨Sn.refl _ _ _⟩⟩
abbrev Oz.agg (z : Oz) : Value := .agg #[.int .i64 z.kd, .int .i64 z.k, .int .i64 z.v, .int .i64 z.w, .int .i64 z.u]
end Go.Proofs.YthjeeianlgkaaaaDoor
