/-
  package fifo at laid: a queue by its owner (things of one cell; what is used where rooms are never full)
-/
import Derived.Test.YtfphoaphdfhhiaaDoorFifoClaid
import Derived.Test.YtfphoaphdfhhiaaDoorCode
namespace Go.Proofs.YtfphoaphdfhhiaaDoor.Flaid
open Go.RowKit

variable {w w' : World} {p rt rw : Nat} {q : List (El × Nat)} {own : Nat → Nat} {i j : Nat} {A : Nat → Addr}

def FifoO (own : Nat → Nat) (i : Nat) (w : World) (p rt rw : Nat) (q : List (El × Nat)) : Prop :=
  ∃ v first gone, FifoIn w p rt rw q v first gone ∧ first ≤ q.length ∧ own p = i ∧ ∀ k, v.ownBlock = some k → own k = i

theorem FifoO.quiet (h : FifoO own i w p rt rw q) (hk : Keeps Nowhere w w') : FifoO own i w' p rt rw q := by
  obtain ⟨v, f, g, h1, h2, h3, h4⟩ := h
  exact ⟨v, f, g, h1.later hk (fun _ _ x => x), h2, h3, h4⟩
theorem FifoO.others (h : FifoO own j w p rt rw q) (hk : Keeps (fun k => own k = i) w w') (hij : j ≠ i) (r : Nat) : FifoO (give own w.heap.size r) j w' p rt rw q := by
  obtain ⟨v, f, g, h1, h2, h3, h4⟩ := h
  refine ⟨v, f, g, h1.later hk ?_, h2, (give_old (h1.lt p (.inl rfl))).trans h3, fun k hk => (give_old (h1.lt k (.inr hk))).trans (h4 k hk)⟩
  rintro k (rfl | hk') e
  · exact hij (h3.symm.trans e)
  · exact hij ((h4 k hk').symm.trans e)
theorem FifoO.things (h : FifoO own i w p rt rw q) : q.length ≤ rt := by obtain ⟨v, f, g, h1, _⟩ := h; exact h1.things
theorem FifoO.weight (h : FifoO own i w p rt rw q) : sumW q ≤ rw := by obtain ⟨v, f, g, h1, _⟩ := h; exact h1.weight
theorem FifoO.rt63 (h : FifoO own i w p rt rw q) : rt ≤ 9223372036854775807 := by obtain ⟨v, f, g, h1, _⟩ := h; exact h1.rt63
theorem FifoO.rw63 (h : FifoO own i w p rt rw q) : rw ≤ 9223372036854775807 := by obtain ⟨v, f, g, h1, _⟩ := h; exact h1.rw63
theorem FifoO.lt (h : FifoO own i w p rt rw q) : p < w.heap.size := by obtain ⟨v, f, g, h1, _⟩ := h; exact h1.lt p (.inl rfl)
theorem FifoO.mine (h : FifoO own i w p rt rw q) : own p = i := by obtain ⟨v, f, g, _, _, h, _⟩ := h; exact h

theorem mk_o {v : Value} {first : Nat} {gone : List Value} {v' : Value} {first' : Nat} {gone' : List Value} {q' : List (El × Nat)} (h0 : FifoIn w p rt rw q v first gone) (hp : own p = i) (hv : ∀ k, v.ownBlock = some k → own k = i)
    (h : FifoIn w' p rt rw q' v' first' gone') (hh : first' ≤ q'.length) (ho : ∀ k, v'.ownBlock = some k → v.ownBlock = some k ∨ w.heap.size ≤ k) : FifoO (give own w.heap.size i) i w' p rt rw q' := by
  refine ⟨v', first', gone', h, hh, (give_old (h0.lt p (.inl rfl))).trans hp, fun k hk => ?_⟩
  rcases ho k hk with e | e
  · exact (give_old (h0.lt k (.inr e))).trans (hv k e)
  · exact give_new e
theorem own_keeps {v : Value} (hp : own p = i) (hv : ∀ k, v.ownBlock = some k → own k = i) (h : Keeps (Own p v) w w') : Keeps (fun k => own k = i) w w' :=
  h.mono (fun k e _ => e.elim (fun e => e ▸ hp) (hv k))
theorem FifoO.gave (h : FifoO own i w p rt rw q) (r : Nat) : FifoO (give own w.heap.size r) i w p rt rw q := by
  obtain ⟨v, f, g, h1, h2, h3, h4⟩ := h
  exact ⟨v, f, g, h1, h2, (give_old (h1.lt p (.inl rfl))).trans h3, fun k hk => (give_old (h1.lt k (.inr hk))).trans (h4 k hk)⟩
theorem FifoO.quietG (h : FifoO own i w p rt rw q) (hk : Keeps Nowhere w w') (r : Nat) : FifoO (give own w.heap.size r) i w' p rt rw q := (h.gave r).quiet hk

theorem new_o (w : World) (rt rw : Nat) (h1 : rt ≤ 9223372036854775807) (h2 : rw ≤ 9223372036854775807) (own : Nat → Nat) (i : Nat) :
    Calls Tryd.prog 15 #[.int .i64 rt, .int .i64 rw] w fun e w' => ∃ p, e = .returned (.tuple #[.pointer (some ⟨p, 0, none⟩), .nilIface]) ∧ Aside (FifoO (give own w.heap.size i) i w' p rt rw []) ∧ Aside (Keeps Nowhere w w') := by
  refine (new_good w rt rw h1 h2).mono ?_
  rintro e w' ⟨rfl, h, hk⟩
  exact ⟨_, rfl, ⟨⟨_, _, _, h, Nat.le_refl _, give_new (Nat.le_refl _), fun k hk => by cases hk⟩⟩, ⟨hk⟩⟩
theorem len_o (h : FifoO own i w p rt rw q) : Calls Tryd.prog 27 #[.pointer (some ⟨p, 0, none⟩)] w fun e w' => e = .returned (.int .i64 q.length) ∧ Keeps Nowhere w w' := by
  obtain ⟨v, f, g, h1, _⟩ := h
  exact len_in h1
theorem weight_o (h : FifoO own i w p rt rw q) : Calls Tryd.prog 26 #[.pointer (some ⟨p, 0, none⟩)] w fun e w' => e = .returned (.int .i64 (sumW q)) ∧ w' = w := by
  obtain ⟨v, f, g, h1, _⟩ := h
  exact weight_in h1
theorem len_quiet_o (h : FifoO own i w p rt rw q) (n : Nat) : Calls Tryd.prog 27 #[.pointer (some ⟨p, 0, none⟩)] (w.drewN n) fun e w' => e = .returned (.int .i64 q.length) ∧ ∃ m, w' = w.drewN m := by
  obtain ⟨v, f, g, h1, _⟩ := h
  exact len_quiet h1 n
theorem weight_quiet_o (h : FifoO own i w p rt rw q) (n : Nat) : Calls Tryd.prog 26 #[.pointer (some ⟨p, 0, none⟩)] (w.drewN n) fun e w' => e = .returned (.int .i64 (sumW q)) ∧ ∃ m, w' = w.drewN m := by
  obtain ⟨v, f, g, h1, _⟩ := h
  exact (weight_in (h1.drewN n)).mono fun e w' h => ⟨h.1, n, h.2⟩

theorem put_o (h : FifoO own i w p rt rw q) (x : El) (n : Nat) (hl : q.length < rt) (hn : sumW q + n ≤ rw) (hb : q.length ≤ 4398046511103) :
    Calls Tryd.prog 24 #[.pointer (some ⟨p, 0, none⟩), .pointer (some ⟨x, 0, none⟩), .int .i64 n] w fun e w' => e = .returned .nilIface ∧
      Aside (FifoO (give own w.heap.size i) i w' p rt rw (q ++ [(x, n)])) ∧ Aside (Keeps (fun k => own k = i) w w') := by
  obtain ⟨v, f, g, h1, h2, h3, h4⟩ := id h
  refine (put_ok h1 x n hl hn (by simp only [by']; omega)).mono ?_
  rintro e w' ⟨rfl, v', a, b, c⟩
  exact ⟨rfl, ⟨mk_o h1 h3 h4 a.it (by simp only [List.length_append]; omega) b.it⟩, ⟨own_keeps h3 h4 c.it⟩⟩
theorem get_o (x : El × Nat) (h : FifoO own i w p rt rw (x :: q)) (hb : q.length ≤ 4398046511103) :
    Calls Tryd.prog 30 #[.pointer (some ⟨p, 0, none⟩)] w fun e w' => e = .returned (.tuple #[.pointer (some ⟨x.1, 0, none⟩), .int .i64 x.2, .bool true]) ∧
      Aside (FifoO (give own w.heap.size i) i w' p rt rw q) ∧ Aside (Keeps (fun k => own k = i) w w') := by
  obtain ⟨v, f, g, h1, h2, h3, h4⟩ := id h
  simp only [List.length_cons] at h2
  refine (get_in x h1 (by simp only [by']; omega) h2).mono ?_
  rintro e w' ⟨rfl, v', f', g', a, b, c, d⟩
  exact ⟨rfl, ⟨mk_o h1 h3 h4 a.it b.it.1 c.it⟩, ⟨own_keeps h3 h4 d.it⟩⟩
theorem head_o (x : El × Nat) (h : FifoO own i w p rt rw (x :: q)) :
    Calls Tryd.prog 25 #[.pointer (some ⟨p, 0, none⟩)] w fun e w' => e = .returned (.tuple #[.pointer (some ⟨x.1, 0, none⟩), .int .i64 x.2, .bool true]) ∧ Aside (Keeps Nowhere w w') := by
  obtain ⟨v, f, g, h1, _⟩ := h
  refine (head_in x h1).mono ?_
  rintro e w' ⟨rfl, k⟩
  exact ⟨rfl, ⟨k⟩⟩
end Go.Proofs.YtfphoaphdfhhiaaDoor.Flaid
