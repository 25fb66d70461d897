/-
  package fifo at pair: a queue by its owner
-/
import Derived.Test.YtnljgklmaljfjaaDoorFpDpair
import Derived.Test.YtnljgklmaljfjaaDoorCode
namespace Go.Proofs.YtnljgklmaljfjaaDoor.Fpair
open Go.RowKit

variable {w w' : World} {p rt rw : Nat} {q : List (El × Nat)} {own : Nat → Nat} {i j t : Nat} {A : Nat → Addr}

def FifoO (own : Nat → Nat) (i : Nat) (w : World) (p rt rw : Nat) (q : List (El × Nat)) (t : Nat) : Prop :=
  ∃ v first gone, FifoIn w p rt rw q v first gone ∧ (first ≤ q.length ∧ first + q.length ≤ t) ∧ own p = i ∧ ∀ k, v.ownBlock = some k → own k = i

theorem FifoO.quiet (h : FifoO own i w p rt rw q t) (hk : Keeps Nowhere w w') : FifoO own i w' p rt rw q t := by
  obtain ⟨v, f, g, h1, h2, h3, h4⟩ := h
  exact ⟨v, f, g, h1.later hk (fun _ _ x => x), h2, h3, h4⟩
theorem FifoO.others (h : FifoO own j w p rt rw q t) (hk : Keeps (fun k => own k = i) w w') (hij : j ≠ i) (r : Nat) : FifoO (give own w.heap.size r) j w' p rt rw q t := by
  obtain ⟨v, f, g, h1, h2, h3, h4⟩ := h
  refine ⟨v, f, g, h1.later hk ?_, h2, (give_old (h1.lt p (.inl rfl))).trans h3, fun k hk => (give_old (h1.lt k (.inr hk))).trans (h4 k hk)⟩
  rintro k (rfl | hk') e
  · exact hij (h3.symm.trans e)
  · exact hij ((h4 k hk').symm.trans e)
theorem FifoO.things (h : FifoO own i w p rt rw q t) : q.length ≤ rt := by obtain ⟨v, f, g, h1, _⟩ := h; exact h1.things
theorem FifoO.weight (h : FifoO own i w p rt rw q t) : sumW q ≤ rw := by obtain ⟨v, f, g, h1, _⟩ := h; exact h1.weight
theorem FifoO.rt63 (h : FifoO own i w p rt rw q t) : rt ≤ 9223372036854775807 := by obtain ⟨v, f, g, h1, _⟩ := h; exact h1.rt63
theorem FifoO.rw63 (h : FifoO own i w p rt rw q t) : rw ≤ 9223372036854775807 := by obtain ⟨v, f, g, h1, _⟩ := h; exact h1.rw63
theorem FifoO.lt (h : FifoO own i w p rt rw q t) : p < w.heap.size := by obtain ⟨v, f, g, h1, _⟩ := h; exact h1.lt p (.inl rfl)
theorem FifoO.mine (h : FifoO own i w p rt rw q t) : own p = i := by obtain ⟨v, f, g, _, _, h, _⟩ := h; exact h

theorem mk_o {v : Value} {first : Nat} {gone : List Value} {v' : Value} {first' : Nat} {gone' : List Value} {q' : List (El × Nat)} (h0 : FifoIn w p rt rw q v first gone) (hp : own p = i) (hv : ∀ k, v.ownBlock = some k → own k = i)
    (h : FifoIn w' p rt rw q' v' first' gone') (hh : first' ≤ q'.length ∧ first' + q'.length ≤ t) (ho : ∀ k, v'.ownBlock = some k → v.ownBlock = some k ∨ w.heap.size ≤ k) : FifoO (give own w.heap.size i) i w' p rt rw q' t := by
  refine ⟨v', first', gone', h, hh, (give_old (h0.lt p (.inl rfl))).trans hp, fun k hk => ?_⟩
  rcases ho k hk with e | e
  · exact (give_old (h0.lt k (.inr e))).trans (hv k e)
  · exact give_new e
theorem own_keeps {v : Value} (hp : own p = i) (hv : ∀ k, v.ownBlock = some k → own k = i) (h : Keeps (Own p v) w w') : Keeps (fun k => own k = i) w w' :=
  h.mono (fun k e _ => e.elim (fun e => e ▸ hp) (hv k))
theorem FifoO.gave (h : FifoO own i w p rt rw q t) (r : Nat) : FifoO (give own w.heap.size r) i w p rt rw q t := by
  obtain ⟨v, f, g, h1, h2, h3, h4⟩ := h
  exact ⟨v, f, g, h1, h2, (give_old (h1.lt p (.inl rfl))).trans h3, fun k hk => (give_old (h1.lt k (.inr hk))).trans (h4 k hk)⟩
theorem FifoO.up (h : FifoO own i w p rt rw q t) : FifoO own i w p rt rw q (t + 1) := by
  obtain ⟨v, f, g, h1, h2, h3, h4⟩ := h
  exact ⟨v, f, g, h1, ⟨h2.1, Nat.le_succ_of_le h2.2⟩, h3, h4⟩
theorem FifoO.quietG (h : FifoO own i w p rt rw q t) (hk : Keeps Nowhere w w') (r : Nat) : FifoO (give own w.heap.size r) i w' p rt rw q t := (h.gave r).quiet hk

theorem new_o (w : World) (rt rw : Nat) (h1 : rt ≤ 9223372036854775807) (h2 : rw ≤ 9223372036854775807) (own : Nat → Nat) (i : Nat) :
    Calls Tryd.prog 6 #[.int .i64 rt, .int .i64 rw] w fun e w' => ∃ p, e = .returned (.tuple #[.pointer (some ⟨p, 0, none⟩), .nilIface]) ∧ Aside (FifoO (give own w.heap.size i) i w' p rt rw [] 0) ∧ Aside (Keeps Nowhere w w') := by
  refine (new_good w rt rw h1 h2).mono ?_
  rintro e w' ⟨rfl, h, hk⟩
  exact ⟨_, rfl, ⟨⟨_, _, _, h, ⟨Nat.le_refl _, Nat.le_refl _⟩, give_new (Nat.le_refl _), fun k hk => by cases hk⟩⟩, ⟨hk⟩⟩
theorem len_o (h : FifoO own i w p rt rw q t) : Calls Tryd.prog 32 #[.pointer (some ⟨p, 0, none⟩)] w fun e w' => e = .returned (.int .i64 q.length) ∧ Keeps Nowhere w w' := by
  obtain ⟨v, f, g, h1, _⟩ := h
  exact len_in h1
theorem len_quiet_o (h : FifoO own i w p rt rw q t) (n : Nat) : Calls Tryd.prog 32 #[.pointer (some ⟨p, 0, none⟩)] (w.drewN n) fun e w' => e = .returned (.int .i64 q.length) ∧ ∃ m, w' = w.drewN m := by
  obtain ⟨v, f, g, h1, _⟩ := h
  exact len_quiet h1 n
theorem all_o (h : FifoO own i w p rt rw q t) (hb : t ≤ 4398046511103) :
    Calls Tryd.prog 19 #[.pointer (some ⟨p, 0, none⟩)] w fun e w' => ∃ b, e = .returned (.func (.func 37) #[] #[.pointer (some ⟨b, 0, none⟩)]) ∧ Aside (WalkAt w.heap.size w' (.func (.func 37) #[] #[.pointer (some ⟨b, 0, none⟩)]) q) ∧ Aside (Keeps Nowhere w w') := by
  obtain ⟨v, f, g, h1, h2, _⟩ := h
  exact all_in h1 (by have := h2.2; simp only [by']; omega)

def putK (rt rw : Nat) (q : List (El × Nat)) (n : Int) : Int := if n < 0 then 2 else if rt ≤ q.length ∨ (rw : Int) < sumW q + n then 6 else 0
def putQ (rt rw : Nat) (q : List (El × Nat)) (x : El) (n : Int) : List (El × Nat) := if putK rt rw q n = 0 then q ++ [(x, n.toNat)] else q

theorem put_o (hs : Sents 129 codeVars A w) (h : FifoO own i w p rt rw q t) (x : El) (n : Int) (hb : t ≤ 4398046511103) :
    Calls Tryd.prog 10 #[.pointer (some ⟨p, 0, none⟩), .agg #[.string (txt x), .int .i64 x], .int .i64 n] w fun e w' => ∃ er, e = .returned er ∧ Coded A er (putK rt rw q n) ∧
      Aside (FifoO (give own w.heap.size i) i w' p rt rw (putQ rt rw q x n) (t + 1)) ∧ Aside (Keeps (fun k => own k = i) w w') := by
  obtain ⟨v, f, g, h1, h2, h3, h4⟩ := id h
  by_cases c1 : n < 0
  · have hk : putK rt rw q n = 2 := by unfold putK; rw [if_pos c1]
    have hq : putQ rt rw q x n = q := by unfold putQ; rw [hk]; rfl
    rw [hk, hq]
    refine (put_range w p x n _ (hs.cell 1 _ rfl) c1).mono ?_
    rintro e w' ⟨rfl, k⟩
    exact ⟨_, rfl, Coded.mk 1 2 (by decide) (by decide) rfl, ⟨(h.quietG k i).up⟩, ⟨k.any⟩⟩
  · obtain ⟨m, rfl⟩ : ∃ m : Nat, n = m := ⟨n.toNat, by omega⟩
    by_cases c2 : rt ≤ q.length ∨ (rw : Int) < sumW q + m
    · have hk : putK rt rw q m = 6 := by unfold putK; rw [if_neg c1, if_pos c2]
      have hq : putQ rt rw q x m = q := by unfold putQ; rw [hk]; rfl
      rw [hk, hq]
      refine (put_full h1 x m _ (hs.cell 5 _ rfl) (by omega)).mono ?_
      rintro e w' ⟨rfl, k⟩
      exact ⟨_, rfl, Coded.mk 5 6 (by decide) (by decide) rfl, ⟨(h.quietG k i).up⟩, ⟨k.any⟩⟩
    · have hk : putK rt rw q m = 0 := by unfold putK; rw [if_neg c1, if_neg c2]
      have hq : putQ rt rw q x m = q ++ [(x, m)] := by unfold putQ; rw [hk]; rfl
      rw [hk, hq]
      refine (put_ok h1 x m (by omega) (by omega) (by have := h2.2; simp only [by']; omega)).mono ?_
      rintro e w' ⟨rfl, v', a, b, c⟩
      exact ⟨_, rfl, Coded.none, ⟨mk_o h1 h3 h4 a.it (by simp only [List.length_append, List.length_cons, List.length_nil]; omega) b.it⟩, ⟨own_keeps h3 h4 c.it⟩⟩
abbrev headV (q : List (El × Nat)) : El × Nat := q.headD (none', 0)
def headA : List (El × Nat) → Value
  | [] => .agg #[.string ⟨#[]⟩, .int .i64 0]
  | x :: _ => .agg #[.string (txt x.1), .int .i64 x.1]
theorem get_o (h : FifoO own i w p rt rw q t) (hb : t ≤ 4398046511103) :
    Calls Tryd.prog 13 #[.pointer (some ⟨p, 0, none⟩)] w fun e w' => e = .returned (.tuple #[headA q, .int .i64 (headV q).2, .bool (!q.isEmpty)]) ∧
      Aside (FifoO (give own w.heap.size i) i w' p rt rw q.tail t) ∧ Aside (Keeps (fun k => own k = i) w w') := by
  obtain ⟨v, f, g, h1, h2, h3, h4⟩ := id h
  cases q with
  | nil =>
    refine (get_empty h1).mono ?_
    rintro e w' ⟨rfl, k⟩
    exact ⟨rfl, ⟨h.quietG k i⟩, ⟨k.any⟩⟩
  | cons x q =>
    simp only [List.length_cons] at h2
    refine (get_in x h1 (by have := h2.2; simp only [by']; omega) h2.1).mono ?_
    rintro e w' ⟨rfl, v', f', g', a, b, c, d⟩
    exact ⟨rfl, ⟨mk_o h1 h3 h4 a.it ⟨b.it.1, by have := b.it.2; simp only [List.tail_cons]; omega⟩ c.it⟩, ⟨own_keeps h3 h4 d.it⟩⟩
theorem head_o (h : FifoO own i w p rt rw q t) :
    Calls Tryd.prog 18 #[.pointer (some ⟨p, 0, none⟩)] w fun e w' => e = .returned (.tuple #[headA q, .int .i64 (headV q).2, .bool (!q.isEmpty)]) ∧ Aside (Keeps Nowhere w w') := by
  obtain ⟨v, f, g, h1, _⟩ := h
  cases q with
  | nil =>
    refine (head_empty h1).mono ?_
    rintro e w' ⟨rfl, k⟩
    exact ⟨rfl, ⟨k⟩⟩
  | cons x q =>
    refine (head_in x h1).mono ?_
    rintro e w' ⟨rfl, k⟩
    exact ⟨rfl, ⟨k⟩⟩
end Go.Proofs.YtnljgklmaljfjaaDoor.Fpair
