/-
  Rows of things that take k cells each. Of whatever program.
-/
import Derived.Test.YtbinopfcelebbaaDoorSteps2
namespace Go.Proofs.YtbinopfcelebbaaDoor
open Go.RowKit

/-- n things of k cells each, read only -/
def ReadsK (k : Nat) (w : World) (v : Value) (n : Nat) (xs : List Value) : Prop :=
  xs.length = n * k ∧ ∃ a c, v = .slice a n c ∧ n ≤ c ∧ c ≤ maxLen ∧ (a = none → c = 0) ∧ ∀ j u, xs[j]? = some u → ∃ g o, a = some ⟨g, o, none⟩ ∧ w.cell? ⟨g, o + j, none⟩ = some u


theorem alloc_cell {W : World} {a : Addr} {v : Value} (o : Obj) (h : W.cell? a = some v) : (W.alloc o).cell? a = some v := by
  rw [World.cell?_of_block (w := W) (Below.heap_alloc W o a.block (World.block_lt_of_cell? W _ h))]; exact h
theorem ReadsK.later {S : Nat → Prop} {k : Nat} {w w' : World} {v : Value} {n : Nat} {xs : List Value} (h : ReadsK k w v n xs) (hk : Keeps S w w') (hn : ∀ b, v.ownBlock = some b → ¬ S b) : ReadsK k w' v n xs := by
  obtain ⟨hl, a, c, rfl, hnc, hm, ha, hc⟩ := h
  refine ⟨hl, a, c, rfl, hnc, hm, ha, fun j u hj => ?_⟩
  obtain ⟨g, o, rfl, hcell⟩ := hc j u hj
  exact ⟨g, o, rfl, by rw [World.cell?_of_block (w := w) (hk.block g (World.block_lt_of_cell? w _ hcell) (hn g rfl))]; exact hcell⟩

theorem owns_readsK {w : World} {base : Nat} {e : TypeId} {k n : Nat} {v : Value} {xs : List Value} (h : w.ownsRow base e k v n xs) : ReadsK k w v n xs := by
  refine ⟨h.1, ?_⟩
  rcases id h.2 with ⟨rfl, h0⟩ | ⟨g, cap, cur, rfl, hb, hg, hn, hm, hs, ht⟩
  · subst h0
    exact ⟨none, 0, rfl, Nat.le_refl _, Nat.zero_le _, fun _ => rfl, fun j u hj => by have := List.eq_nil_of_length_eq_zero (h.1.trans (Nat.zero_mul _)); subst this; simp at hj⟩
  · refine ⟨some ⟨g, 0, none⟩, cap, rfl, hn, hm, fun e => (by cases e), fun j u hj => ⟨g, 0, rfl, ?_⟩⟩
    have := h.cells rfl j u hj
    rwa [add_none] at this
theorem owns_shapeK {w : World} {base : Nat} {e : TypeId} {k n : Nat} {v : Value} {xs : List Value} (h : w.ownsRow base e k v n xs) : ∃ p q r, v = .slice p q r := by
  rcases h.2 with ⟨rfl, _⟩ | ⟨g, cap, cur, rfl, _⟩
  · exact ⟨_, _, _, rfl⟩
  · exact ⟨_, _, _, rfl⟩
theorem owns_setCell {w : World} {base : Nat} {e : TypeId} {k n g l c : Nat} {xs : List Value} (h : w.ownsRow base e k (.slice (some ⟨g, 0, none⟩) l c) n xs) (j : Nat) (hj : j < n * k) (u : Value) : (w.setCell ⟨g, j, none⟩ u).ownsRow base e k (.slice (some ⟨g, 0, none⟩) l c) n (xs.set j u) := by
  refine ⟨by rw [List.length_set]; exact h.1, ?_⟩
  rcases h.2 with ⟨h, _⟩ | ⟨g', cap, cur, he, hb, hg, hn, hm, hs, ht⟩
  · cases h
  · injection he with e1 e2 e3
    injection e1 with e1
    injection e1 with e1
    subst e1 e2 e3
    refine .inr ⟨g, c, cur.setIfInBounds j u, rfl, hb, ?_, hn, hm, by simpa using hs, ?_⟩
    · rw [setCell_eq_setRow w g j _ e _ u hg, setRow_heap w g _ _ e _ hg]
    · rw [Array.toList_setIfInBounds, List.take_set, ht]
theorem owns_frozen {w : World} {base : Nat} {e : TypeId} {k n g l c : Nat} {xs : List Value} (h : w.ownsRow base e k (.slice (some ⟨g, 0, none⟩) l c) n xs) (j : Nat) : w.frozen? ⟨g, j, none⟩ = false := by
  rcases h.2 with ⟨h, _⟩ | ⟨g', cap, cur, he, hb, hg, _⟩
  · cases h
  · injection he with e1 e2 e3
    injection e1 with e1
    injection e1 with e1
    subst e1
    simp [World.frozen?, hg]
theorem owns_any {w : World} {base : Nat} {e : TypeId} {k n : Nat} {v : Value} {xs : List Value} (h : w.ownsRow base e k v n xs) : w.ownsRow 0 e k v n xs := by
  refine ⟨h.1, ?_⟩
  rcases h.2 with h0 | ⟨g, cap, cur, rfl, hb, hg, rest⟩
  · exact .inl h0
  · exact .inr ⟨g, cap, cur, rfl, Nat.zero_le _, hg, rest⟩
theorem owns_later {S : Nat → Prop} {w w' : World} {base : Nat} {e : TypeId} {k n : Nat} {v : Value} {xs : List Value} (h : w.ownsRow base e k v n xs) (hk : Keeps S w w') (hn : ∀ b, v.ownBlock = some b → ¬ S b) : w'.ownsRow base e k v n xs := by
  refine ⟨h.1, ?_⟩
  rcases h.2 with h0 | ⟨g, cap, cur, rfl, hb, hg, rest⟩
  · exact .inl h0
  · exact .inr ⟨g, cap, cur, rfl, hb, (hk.block g (Array.getElem?_eq_some_iff.1 hg).1 (hn g rfl)).trans hg, rest⟩
theorem owns_lt {w : World} {base : Nat} {e : TypeId} {k n : Nat} {v : Value} {xs : List Value} (h : w.ownsRow base e k v n xs) : ∀ b, v.ownBlock = some b → b < w.heap.size := by
  rcases h.2 with ⟨rfl, _⟩ | ⟨g, cap, cur, rfl, hb, hg, rest⟩
  · intro b hb; simp [Value.ownBlock] at hb
  · intro b hb
    simp only [Value.ownBlock, Option.some.injEq] at hb
    subst hb
    exact (Array.getElem?_eq_some_iff.1 hg).1
theorem owns_base {w : World} {base : Nat} {e : TypeId} {k n : Nat} {v : Value} {xs : List Value} (h : w.ownsRow base e k v n xs) : ∀ b, v.ownBlock = some b → base ≤ b := by
  rcases h.2 with ⟨rfl, _⟩ | ⟨g, cap, cur, rfl, hb, hg, rest⟩
  · intro b hb; simp [Value.ownBlock] at hb
  · intro b hb'
    simp only [Value.ownBlock, Option.some.injEq] at hb'
    subst hb'
    exact hb
/-- a row's block is of the row's type -/
theorem owns_ne {w : World} {base : Nat} {e e' : TypeId} {k n p : Nat} {v : Value} {xs cs : List Value} (h : w.ownsRow base e k v n xs) (hc : Cells w p e' cs) (hne : e ≠ e') : v.ownBlock ≠ some p := by
  rcases h.2 with ⟨rfl, _⟩ | ⟨g, cap, cur, rfl, hb, hg, rest⟩
  · intro hb; simp [Value.ownBlock] at hb
  · intro hb'
    simp only [Value.ownBlock, Option.some.injEq] at hb'
    subst hb'
    unfold Cells at hc
    rw [hg] at hc
    injection hc with hc
    injection hc with _ hc
    exact hne hc

/-- a row's block behind an append: the same, or a new one -/
theorem append_block {P : Program} (w : World) (base : Nat) (t ty e : TypeId) (i : TypeInfo) (z : Value) (k bytes : Nat) (ht : P.underlying t = some (.slice e)) (hi : P.info? e = some i) (hz : i.zero = some z) (hsize : i.size = k) (hby : i.bytes = bytes)
    (hzs : z.cells.size = k) (hk : 0 < k) (v : Value) (n : Nat) (xs : List Value) (hown : w.ownsRow base e k v n xs) (a : Addr) (m c : Nat) (ys : List Value) (hl : ys.length = m * k) (hc : ∀ j u, ys[j]? = some u → w.cell? (a.add j) = some u) (h1 : ∀ u ∈ ys, u.oneCell' = true)
    (hb : (n + m) * bytes ≤ 140737488355328) (h63 : n + m ≤ maxLen) (v' : Value) (w' : World) (hrun : (Builtin.append_ #[t, t] ty #[v, .slice (some a) m c]).run P w = .ok v' w') : ∀ b, v'.ownBlock = some b → v.ownBlock = some b ∨ w.heap.size ≤ b := by
  intro b hvb
  have hsmall : n + m ≤ 9223372036854775807 := by simp only [maxLen] at h63; omega
  rcases id hown.2 with ⟨rfl, rfl⟩ | ⟨g, cap, cur, rfl, hbg, hg, hnc, hcm, hcs, htake⟩
  · obtain ⟨v2, w2, hr2, ho2, _⟩ := run_append_own (P := P) w w.heap.size t ty e i z k bytes ht hi hz hsize hby hzs hk _ 0 xs ⟨hown.1, .inl ⟨rfl, rfl⟩⟩ a m c ys hl hc h1 h63 hb (Nat.le_refl _)
    rw [hrun] at hr2
    injection hr2 with e1 _
    subst e1
    exact .inr (owns_base ho2 b hvb)
  · subst hsize hby
    by_cases hroom : n + m ≤ cap
    · have hr := run_append_room (P := P) w t ty e i ht hi g n cap cur hg a m c ys hl hc h1 hroom (by rw [hl, hcs, ← Nat.add_mul]; exact Nat.mul_le_mul_right _ hroom)
      rw [hrun] at hr
      injection hr with e1 _
      subst e1
      exact .inl hvb
    · have hr := run_append_grow (P := P) w t ty e i z ht hi hz ⟨g, 0, none⟩ n cap xs hown.1 (hown.cells (g := g) rfl) a m c ys hl hc (by omega) (by omega) (growslice_fits (by omega) hb)
      rw [hrun] at hr
      injection hr with e1 _
      subst e1
      simp only [Value.ownBlock, Option.some.injEq] at hvb
      exact .inr (by omega)
theorem run_appendR {P : Program} (w : World) (base : Nat) (t e : TypeId) (i : TypeInfo) (z : Value) (k bytes : Nat) (ht : P.underlying t = some (.slice e)) (hi : P.info? e = some i) (hz : i.zero = some z) (hsize : i.size = k) (hby : i.bytes = bytes)
    (hzs : z.cells.size = k) (hk : 0 < k) (v : Value) (n : Nat) (xs : List Value) (hown : w.ownsRow base e k v n xs) (sv : Value) (m : Nat) (ys : List Value) (hr : ReadsK k w sv m ys) (h1 : ∀ u ∈ ys, u.oneCell' = true)
    (hb : (n + m) * bytes ≤ 140737488355328) (h63 : n + m ≤ maxLen) (hbase : base ≤ w.heap.size) :
    ∃ v' w', (∀ ty, (Builtin.append_ #[t, t] ty #[v, sv]).run P w = .ok v' w') ∧ w'.ownsRow base e k v' (n + m) (xs ++ ys) ∧ w.grownBy w' v.ownBlock ∧ ∀ b, v'.ownBlock = some b → v.ownBlock = some b ∨ w.heap.size ≤ b := by
  obtain ⟨hl, a, c, rfl, hlc, _, hnil, hc⟩ := hr
  cases a with
  | none =>
    obtain rfl := hnil rfl
    obtain rfl : m = 0 := by omega
    obtain rfl : ys = [] := List.eq_nil_of_length_eq_zero (by omega)
    refine ⟨v, w, fun ty => ?_, by simpa using hown, ⟨rfl, rfl, rfl, Nat.le_refl _, fun _ _ _ => rfl⟩, fun b hb => .inl hb⟩
    exact run_append_owned_none (P := P) (w := w) base t ty e i k ht hi v n xs hown
  | some ad =>
    have hc' : ∀ j u, ys[j]? = some u → w.cell? (ad.add j) = some u := fun j u hj => by
      obtain ⟨g, o, hx, hce⟩ := hc j u hj
      cases hx
      rw [add_none]
      exact hce
    obtain ⟨v', w', hrun, ho, hg, _⟩ := run_append_own (P := P) w base t 0 e i z k bytes ht hi hz hsize hby hzs hk v n xs hown ad m c ys hl hc' h1 h63 hb hbase
    exact ⟨v', w', fun ty => hrun, ho, hg, append_block w base t 0 e i z k bytes ht hi hz hsize hby hzs hk v n xs hown ad m c ys hl hc' h1 hb h63 v' w' hrun⟩
theorem wpList_appendR {P : Program} {W : World} {ops : Array Oper} {rest : List Oper} {o : Oper} {a : Act} {Q : Exit → Act → World → Prop} (hgd : o.guard = none) (s x : Operand) (t : TypeId)
    (ho : o.op = .call { callee := .builtin .append, args := #[s, x], argTypes := #[t, t] }) (e : TypeId) (z : Value) (k bytes : Nat) (ht : P.underlying t = some (.slice e)) (hinfo : (P.info? e).map (fun i => (i.zero, i.size, i.bytes)) = some (some z, k, bytes))
    (hzs : z.cells.size = k) (h0 : 0 < k) (w : World) (hk : Keeps Nowhere w W) (base : Nat) (v : Value) (n : Nat) (xs : List Value) (hown : w.ownsRow base e k v n xs) (sv : Value) (m : Nat) (ys : List Value) (hr : ReadsK k W sv m ys) (h1 : ∀ u ∈ ys, u.oneCell' = true)
    (hb : (n + m) * bytes ≤ 140737488355328) (h63 : n + m ≤ maxLen) (hbase : base ≤ w.heap.size) (hs : a.eval s = v) (hx : a.eval x = sv)
    (h : ∀ v' w', Aside (w'.ownsRow base e k v' (n + m) (xs ++ ys)) → Aside (Keeps (fun b => v.ownBlock = some b) W w') → Aside (∀ b, v'.ownBlock = some b → v.ownBlock = some b ∨ W.heap.size ≤ b) → wpList P ops Q rest (a.put o.dst v') w') : wpList P ops Q (o :: rest) a W := by
  obtain ⟨i, hi, hz0, hz1, hz2⟩ := info_parts hinfo
  have hown' := owns_later hown hk (fun _ _ x => x)
  obtain ⟨v', w', run, o', g', b'⟩ := run_appendR (P := P) W base t e i z k bytes ht hi hz0 hz1 hz2 hzs h0 v n xs hown' sv m ys hr h1 hb h63 (Nat.le_trans hbase hk.size)
  refine wpList_appendK hgd s x t ho _ sv v' w' hs hx run (h v' w' ⟨o'⟩ ⟨grown_keeps g'⟩ ⟨b'⟩)
/-- append of one thing that lies in a new block -/
theorem readsK_new (w : World) (e : TypeId) (xs : List Value) : ReadsK xs.length (w.alloc (.cells xs.toArray e)) (.slice (some ⟨w.heap.size, 0, none⟩) 1 1) 1 xs := by
  refine ⟨by simp, _, _, rfl, Nat.le_refl _, by decide, fun h => (by cases h), fun j u hj => ⟨_, _, rfl, ?_⟩⟩
  have := (Cells.new w e xs).cell j
  rw [Nat.zero_add, this]
  exact hj
end Go.Proofs.YtbinopfcelebbaaDoor
