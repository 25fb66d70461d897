/-
  package fifo at ticket: a queue by its owner (things of one cell; rooms never full; m: how far its row reaches)
-/
import Derived.Test.YtialmmobkmdfpaaDoorFifoCticket
import Derived.Test.YtialmmobkmdfpaaDoorCode
namespace Go.Proofs.YtialmmobkmdfpaaDoor.Fticket
open Go.RowKit

variable {w w' : World} {p rt rw : Nat} {q : List (El × Nat)} {own : Nat → Nat} {i j m : Nat} {A : Nat → Addr}

def FifoM (own : Nat → Nat) (i : Nat) (w : World) (p rt rw : Nat) (q : List (El × Nat)) (m : Nat) : Prop :=
  ∃ v first gone, FifoIn w p rt rw q v first gone ∧ (first ≤ q.length ∧ first + q.length ≤ m) ∧ own p = i ∧ ∀ k, v.ownBlock = some k → own k = i

theorem FifoM.quiet (h : FifoM own i w p rt rw q m) (hk : Keeps Nowhere w w') : FifoM own i w' p rt rw q m := by
  obtain ⟨v, f, g, h1, h2, h3, h4⟩ := h
  exact ⟨v, f, g, h1.later hk (fun _ _ x => x), h2, h3, h4⟩
theorem FifoM.others (h : FifoM own j w p rt rw q m) (hk : Keeps (fun k => own k = i) w w') (hij : j ≠ i) (r : Nat) : FifoM (give own w.heap.size r) j w' p rt rw q m := by
  obtain ⟨v, f, g, h1, h2, h3, h4⟩ := h
  refine ⟨v, f, g, h1.later hk ?_, h2, (give_old (h1.lt p (.inl rfl))).trans h3, fun k hk => (give_old (h1.lt k (.inr hk))).trans (h4 k hk)⟩
  rintro k (rfl | hk') e
  · exact hij (h3.symm.trans e)
  · exact hij ((h4 k hk').symm.trans e)
theorem FifoM.things (h : FifoM own i w p rt rw q m) : q.length ≤ rt := by obtain ⟨v, f, g, h1, _⟩ := h; exact h1.things
theorem FifoM.weight (h : FifoM own i w p rt rw q m) : sumW q ≤ rw := by obtain ⟨v, f, g, h1, _⟩ := h; exact h1.weight
theorem FifoM.rt63 (h : FifoM own i w p rt rw q m) : rt ≤ 9223372036854775807 := by obtain ⟨v, f, g, h1, _⟩ := h; exact h1.rt63
theorem FifoM.rw63 (h : FifoM own i w p rt rw q m) : rw ≤ 9223372036854775807 := by obtain ⟨v, f, g, h1, _⟩ := h; exact h1.rw63
theorem FifoM.lt (h : FifoM own i w p rt rw q m) : p < w.heap.size := by obtain ⟨v, f, g, h1, _⟩ := h; exact h1.lt p (.inl rfl)
theorem FifoM.mine (h : FifoM own i w p rt rw q m) : own p = i := by obtain ⟨v, f, g, _, _, h, _⟩ := h; exact h

theorem mk_o {v : Value} {first : Nat} {gone : List Value} {v' : Value} {first' : Nat} {gone' : List Value} {q' : List (El × Nat)} (h0 : FifoIn w p rt rw q v first gone) (hp : own p = i) (hv : ∀ k, v.ownBlock = some k → own k = i)
    (h : FifoIn w' p rt rw q' v' first' gone') (hh : first' ≤ q'.length ∧ first' + q'.length ≤ m) (ho : ∀ k, v'.ownBlock = some k → v.ownBlock = some k ∨ w.heap.size ≤ k) : FifoM (give own w.heap.size i) i w' p rt rw q' m := by
  refine ⟨v', first', gone', h, hh, (give_old (h0.lt p (.inl rfl))).trans hp, fun k hk => ?_⟩
  rcases ho k hk with e | e
  · exact (give_old (h0.lt k (.inr e))).trans (hv k e)
  · exact give_new e
theorem own_keeps {v : Value} (hp : own p = i) (hv : ∀ k, v.ownBlock = some k → own k = i) (h : Keeps (Own p v) w w') : Keeps (fun k => own k = i) w w' :=
  h.mono (fun k e _ => e.elim (fun e => e ▸ hp) (hv k))
theorem FifoM.gave (h : FifoM own i w p rt rw q m) (r : Nat) : FifoM (give own w.heap.size r) i w p rt rw q m := by
  obtain ⟨v, f, g, h1, h2, h3, h4⟩ := h
  exact ⟨v, f, g, h1, h2, (give_old (h1.lt p (.inl rfl))).trans h3, fun k hk => (give_old (h1.lt k (.inr hk))).trans (h4 k hk)⟩
theorem FifoM.quietG (h : FifoM own i w p rt rw q m) (hk : Keeps Nowhere w w') (r : Nat) : FifoM (give own w.heap.size r) i w' p rt rw q m := (h.gave r).quiet hk

theorem new_o (w : World) (rt rw : Nat) (h1 : rt ≤ 9223372036854775807) (h2 : rw ≤ 9223372036854775807) (own : Nat → Nat) (i : Nat) :
    Calls Tryd.prog 26 #[.int .i64 rt, .int .i64 rw] w fun e w' => ∃ p, e = .returned (.tuple #[.pointer (some ⟨p, 0, none⟩), .nilIface]) ∧ Aside (FifoM (give own w.heap.size i) i w' p rt rw [] m) ∧ Aside (Keeps Nowhere w w') := by
  refine (new_good w rt rw h1 h2).mono ?_
  rintro e w' ⟨rfl, h, hk⟩
  exact ⟨_, rfl, ⟨⟨_, _, _, h, ⟨Nat.le_refl _, Nat.zero_le _⟩, give_new (Nat.le_refl _), fun k hk => by cases hk⟩⟩, ⟨hk⟩⟩
theorem len_o (h : FifoM own i w p rt rw q m) : Calls Tryd.prog 32 #[.pointer (some ⟨p, 0, none⟩)] w fun e w' => e = .returned (.int .i64 q.length) ∧ Keeps Nowhere w w' := by
  obtain ⟨v, f, g, h1, _⟩ := h
  exact len_in h1
theorem len_quiet_o (h : FifoM own i w p rt rw q m) (n : Nat) : Calls Tryd.prog 32 #[.pointer (some ⟨p, 0, none⟩)] (w.drewN n) fun e w' => e = .returned (.int .i64 q.length) ∧ ∃ m, w' = w.drewN m := by
  obtain ⟨v, f, g, h1, _⟩ := h
  exact len_quiet h1 n
theorem put_o (h : FifoM own i w p rt rw q m) (x : El) (n : Nat) (hl : q.length < rt) (hn : sumW q + n ≤ rw) (hb : m < 8796093022208) :
    Calls Tryd.prog 56 #[.pointer (some ⟨p, 0, none⟩), .pointer (some ⟨x, 0, none⟩), .int .i64 n] w fun e w' => e = .returned .nilIface ∧
      Aside (FifoM (give own w.heap.size i) i w' p rt rw (q ++ [(x, n)]) (m + 1)) ∧ Aside (Keeps (fun k => own k = i) w w') := by
  obtain ⟨v, f, g, h1, h2, h3, h4⟩ := id h
  refine (put_ok h1 x n hl hn (by obtain ⟨_, h5⟩ := h2; simp only [by']; omega)).mono ?_
  rintro e w' ⟨rfl, v', a, b, c⟩
  exact ⟨rfl, ⟨mk_o h1 h3 h4 a.it (by simp only [List.length_append, List.length_cons, List.length_nil]; omega) b.it⟩, ⟨own_keeps h3 h4 c.it⟩⟩
theorem get_o (x : El × Nat) (h : FifoM own i w p rt rw (x :: q) m) (hb : m ≤ 8796093022208) :
    Calls Tryd.prog 37 #[.pointer (some ⟨p, 0, none⟩)] w fun e w' => e = .returned (.tuple #[.pointer (some ⟨x.1, 0, none⟩), .int .i64 x.2, .bool true]) ∧
      Aside (FifoM (give own w.heap.size i) i w' p rt rw q m) ∧ Aside (Keeps (fun k => own k = i) w w') := by
  obtain ⟨v, f, g, h1, h2, h3, h4⟩ := id h
  simp only [List.length_cons] at h2
  refine (get_in x h1 (by obtain ⟨_, h5⟩ := h2; simp only [by']; omega) h2.1).mono ?_
  rintro e w' ⟨rfl, v', f', g', a, b, c, d⟩
  exact ⟨rfl, ⟨mk_o h1 h3 h4 a.it ⟨b.it.1, by have := b.it.2; omega⟩ c.it⟩, ⟨own_keeps h3 h4 d.it⟩⟩
theorem head_o (x : El × Nat) (h : FifoM own i w p rt rw (x :: q) m) :
    Calls Tryd.prog 58 #[.pointer (some ⟨p, 0, none⟩)] w fun e w' => e = .returned (.tuple #[.pointer (some ⟨x.1, 0, none⟩), .int .i64 x.2, .bool true]) ∧ Aside (Keeps Nowhere w w') := by
  obtain ⟨v, f, g, h1, _⟩ := h
  refine (head_in x h1).mono ?_
  rintro e w' ⟨rfl, k⟩
  exact ⟨rfl, ⟨k⟩⟩
end Go.Proofs.YtialmmobkmdfpaaDoor.Fticket
