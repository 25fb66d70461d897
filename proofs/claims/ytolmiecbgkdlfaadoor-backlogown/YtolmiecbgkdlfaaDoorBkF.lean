/-
  package backlog: Put
-/
import Derived.Test.YtolmiecbgkdlfaaDoorBkD
namespace Go.Proofs.YtolmiecbgkdlfaaDoor
open Go.RowKit Fuint32

variable {A : Nat → Addr} {w w' W w0 : World} {own own' : Nat → Nat} {i p fp most : Nat} {L L' : List Nat} {v v' : Value} {first : Nat} {gone : List Value} {I : Nat → Prop}

theorem bput_twice (x : Value) (id : Nat) (er : Value) (HS : Calls Tryd.prog 11 #[x, .int .u32 (id : Nat)] w fun e w' => e = .returned (.bool true) ∧ Aside (Keeps Nowhere w w')) (hc : ∀ W, Keeps Nowhere w W → W.cell? ⟨1, 0, none⟩ = some er) :
    Calls Tryd.prog 12 #[x, .int .u32 (id : Nat)] w fun e w' => e = .returned er ∧ Aside (Keeps Nowhere w w') := by
  have H := Aside.mk HS
  clear HS
  go_enter Tryd.func12, Tryd.ntmps12
  go_wp2_with (go_at_call 11; refine H.it.mono ?_; rintro e w1 ⟨rfl, K1⟩; have c1 := hc w1 K1.it)
  go_ret
  exact ⟨rfl, K1⟩
theorem bput_of (x : Value) (fv : Option Addr) (id : Nat) (er : Value) (R : World → Prop) (HS : Calls Tryd.prog 11 #[x, .int .u32 (id : Nat)] w fun e w' => e = .returned (.bool false) ∧ Aside (Keeps Nowhere w w')) (PT : Pt w x fv)
    (PU : ∀ W, Keeps Nowhere w W → Calls Tryd.prog 30 #[.pointer fv, .int .u32 (id : Nat), .int .i64 0] W fun e w' => e = .returned er ∧ Aside (R w')) :
    Calls Tryd.prog 12 #[x, .int .u32 (id : Nat)] w fun e w' => e = .returned er ∧ Aside (R w') := by
  have H := Aside.mk HS
  have P := Aside.mk PT
  have N := Aside.mk PU
  have F0 := bk_f0 fv
  clear PT PU HS
  go_enter Tryd.func12, Tryd.ntmps12
  go_wp2_with (first | (go_at_call 11; refine H.it.mono ?_; rintro e w1 ⟨rfl, K1⟩) | (go_at_call 28; refine (P.it w1 K1.it).mono ?_; rintro e w2 ⟨rfl, K2⟩) | (go_at_call 30; refine (N.it w2 (K1.it.trans K2.it)).mono ?_; rintro e w3 ⟨rfl, R3⟩) | fail)
  go_ret
  exact ⟨rfl, R3⟩
/-- the code of Put's answer; the list behind it -/
def putC (most : Nat) (L : List Nat) (id : Nat) : Int := if id ∈ L then 8 else if most ≤ L.length then 6 else 0
def putL (most : Nat) (L : List Nat) (id : Nat) : List Nat := if id ∈ L ∨ most ≤ L.length then L else L ++ [id]
theorem bput (h : BkO own i w p most L) (id : Nat) (hs : Sents 92 codeVars A w) : Calls Tryd.prog 12 #[ptr p, .int .u32 (id : Nat)] w fun e w' => ∃ ev, e = .returned ev ∧ Hid (Coded A ev (putC most L id)) ∧ Aside (∃ own', BkO own' i w' p most (putL most L id) ∧ Sn (fun k => k = i) own w own' w') := by
  have HH := bhas h id
  have HB := h
  have hl := h.len
  obtain ⟨fp, v, f, g, h, hp, ho⟩ := h
  unfold putC putL
  by_cases hx : id ∈ L
  · rw [if_pos hx, if_pos (.inl hx)]
    rw [decide_eq_true hx] at HH
    refine (bput_twice (ptr p) id _ HH (fun W k => (hs.later k.bel).cell 7 _ rfl)).mono ?_
    rintro e w' ⟨rfl, K⟩
    exact ⟨_, rfl, hide (Coded.mk _ _ (by decide) (by decide) rfl), ⟨own, HB.quiet K.it, Sn.same K.it⟩⟩
  · rw [decide_eq_false hx] at HH
    rw [if_neg hx]
    by_cases hm : most ≤ L.length
    · rw [if_pos hm, if_pos (.inr hm)]
      refine (bput_of (ptr p) (some ⟨fp, 0, none⟩) id _ (fun w' => ∃ own', BkO own' i w' p most L ∧ Sn (fun k => k = i) own w own' w') HH (Pt.at h.box) (fun W k => (put_full (h.q.later k (fun _ _ x => x)) id 0 _ ((hs.later k.bel).cell 5 _ rfl) (.inl (by rw [qn_len]; exact hm))).mono fun e w' hx => ⟨hx.1, ⟨own, HB.quiet (k.trans hx.2), Sn.same (k.trans hx.2)⟩⟩)).mono ?_
      rintro e w' ⟨rfl, R⟩
      exact ⟨_, rfl, hide (Coded.mk _ _ (by decide) (by decide) rfl), R⟩
    · rw [if_neg hm, if_neg (by rintro (h | h); exact hx h; exact hm h)]
      refine (bput_of (ptr p) (some ⟨fp, 0, none⟩) id .nilIface (fun w' => ∃ own', BkO own' i w' p most (L ++ [id]) ∧ Sn (fun k => k = i) own w own' w') HH (Pt.at h.box) (fun W k => ?_)).mono ?_
      · have h2 : BkI W p fp most L v f g := ⟨h.box.later k (fun x => x), h.q.later k (fun _ _ x => x), h.half, h.top⟩
        refine (put_ok h2.q id 0 (by rw [qn_len]; omega) (by rw [qn_sum]; exact Nat.le_refl _) (by rw [qn_len]; simp only [by']; have := h.half; omega)).mono ?_
        rintro e w' ⟨rfl, v', a, b, c⟩
        have a1 := a.it
        rw [qn_snoc] at a1
        have hx := h2.done hp ho a1 (by have := h.half; simp; omega) b.it c.it
        exact ⟨rfl, ⟨_, hx.1, (Sn.same k).trans hx.2⟩⟩
      · rintro e w' ⟨rfl, R⟩
        exact ⟨_, rfl, hide Coded.none, R⟩
theorem bput_nil (id : Nat) (hs : Sents 92 codeVars A w) : Calls Tryd.prog 12 #[.pointer none, .int .u32 (id : Nat)] w fun e w' => ∃ ev, e = .returned ev ∧ Hid (Coded A ev 1) ∧ Aside (Keeps Nowhere w w') := by
  refine (bput_of (.pointer none) none id _ (fun w' => Keeps Nowhere w w') (bhas_nil w id) (Pt.nil w) (fun W k => (put_nil W id 0 _ ((hs.later k.bel).cell 0 _ rfl)).mono fun e w' hx => ⟨hx.1, ⟨k.trans hx.2⟩⟩)).mono ?_
  rintro e w' ⟨rfl, R⟩
  exact ⟨_, rfl, hide (Coded.mk _ _ (by decide) (by decide) rfl), R⟩
end Go.Proofs.YtolmiecbgkdlfaaDoor
