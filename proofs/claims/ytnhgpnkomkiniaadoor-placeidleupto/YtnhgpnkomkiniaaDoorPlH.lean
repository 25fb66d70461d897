/-
  PlaceIdle's lists, and its world
-/
import Derived.Test.YtnhgpnkomkiniaaDoorPlL
namespace Go.Proofs.YtnhgpnkomkiniaaDoor
open Go.RowKit

variable {A : Nat → Addr} {w w' W w0 : World}

/-- another number of numbers left, as long as one is -/
def adj (z : LoadV) (i : Nat) : LoadV := ⟨z.live, z.drain, z.opn, if 1 ≤ z.left then 1 + (i : Int) else z.left⟩
theorem adj_may {most : Int} {z : LoadV} {i : Nat} : (adj z i).may most = z.may most := by
  unfold LoadV.may adj
  by_cases h : 1 ≤ z.left
  · simp only [if_pos h, decide_eq_true h]
    rw [decide_eq_true (by omega : (1 : Int) ≤ 1 + (i : Int))]
  · simp only [if_neg h]
/-- behind i rounds: ms is what was gathered, P j the place of the j-th -/
structure Idl (most : Int) (zs : List LoadV) (i : Nat) (ms : List LoadV) (P : Nat → Nat) : Prop where
  at_ : ∀ j z, j < i → zs[j]? = some z → ms[P j]? = some (adj z j)
  up : ∀ j j', j < j' → j' < i → P j < P j'
  lt : ∀ j, j < i → P j < ms.length
  all : ∀ m y, ms[m]? = some y → y.may most = true → ∃ j, j < i ∧ m = P j
theorem Idl.none {most : Int} {zs : List LoadV} : Idl most zs 0 [] (fun _ => 0) := ⟨fun _ _ h => (by omega), fun _ _ _ h => (by omega), fun _ h => (by omega), fun _ _ h => (by simp at h)⟩
theorem Idl.idle {most : Int} {zs ms : List LoadV} {i : Nat} {P : Nat → Nat} {y : LoadV} (h : Idl most zs i ms P) (hy : y.may most = false) : Idl most zs i (ms ++ [y]) P := by
  refine ⟨fun j z hj hz => ?_, h.up, fun j hj => ?_, fun m x hx hm => ?_⟩
  · rw [List.getElem?_append_left (h.lt j hj)]; exact h.at_ j z hj hz
  · rw [List.length_append]; have := h.lt j hj; omega
  · rcases Nat.lt_or_ge m ms.length with h1 | h1
    · rw [List.getElem?_append_left h1] at hx; exact h.all m x hx hm
    · rw [List.getElem?_append_right h1] at hx
      have : m - ms.length = 0 := by
        have := (List.getElem?_eq_some_iff.1 hx).1
        simp at this; omega
      rw [this] at hx
      cases hx
      rw [hy] at hm; cases hm
theorem Idl.own {most : Int} {zs ms : List LoadV} {i : Nat} {P : Nat → Nat} {z : LoadV} (h : Idl most zs i ms P) (hz : zs[i]? = some z) : Idl most zs (i + 1) (ms ++ [adj z i]) (fun j => if j = i then ms.length else P j) := by
  refine ⟨fun j y hj hy => ?_, fun j j' hj hj' => ?_, fun j hj => ?_, fun m x hx hm => ?_⟩
  · show (ms ++ [adj z i])[if j = i then ms.length else P j]? = _
    by_cases e : j = i
    · subst e
      rw [if_pos rfl, List.getElem?_append_right (Nat.le_refl _), Nat.sub_self]
      rw [hz] at hy; cases hy; rfl
    · rw [if_neg e, List.getElem?_append_left (h.lt j (by omega))]
      exact h.at_ j y (by omega) hy
  · show (if j = i then ms.length else P j) < (if j' = i then ms.length else P j')
    rw [if_neg (by omega)]
    by_cases e : j' = i
    · rw [if_pos e]; exact h.lt j (by omega)
    · rw [if_neg e]; exact h.up j j' hj (by omega)
  · show (if j = i then ms.length else P j) < _
    rw [List.length_append]
    by_cases e : j = i
    · rw [if_pos e]; simp
    · rw [if_neg e]; have := h.lt j (by omega); omega
  · show ∃ j, j < i + 1 ∧ m = (if j = i then ms.length else P j)
    rcases Nat.lt_or_ge m ms.length with h1 | h1
    · rw [List.getElem?_append_left h1] at hx
      obtain ⟨j, hj, e⟩ := h.all m x hx hm
      exact ⟨j, by omega, by rw [if_neg (by omega)]; exact e⟩
    · have h2 := (List.getElem?_eq_some_iff.1 hx).1
      rw [List.length_append] at h2
      simp at h2
      exact ⟨i, by omega, by rw [if_pos rfl]; omega⟩
theorem Idl.pick {most : Int} {zs ms : List LoadV} {P : Nat → Nat} {k : Nat} (h : Idl most zs zs.length ms P) (p : IsPick most zs k) : IsPick most ms (P k) := by
  obtain ⟨z, e, m, hp⟩ := p
  have hk := (List.getElem?_eq_some_iff.1 e).1
  refine ⟨adj z k, h.at_ k z hk e, adj_may.trans m, fun j y hj hy => ?_⟩
  obtain ⟨i, hi, rfl⟩ := h.all j y hj hy
  obtain ⟨x, hx⟩ : ∃ x, zs[i]? = some x := ⟨_, List.getElem?_eq_getElem hi⟩
  rw [h.at_ i x hi hx] at hj
  cases hj
  have := hp i x hx (by rw [← adj_may (i := i)]; exact hy)
  rcases this with h1 | ⟨h1, h2⟩
  · exact .inl h1
  · refine .inr ⟨h1, ?_⟩
    rcases Nat.eq_or_lt_of_le h2 with rfl | h3
    · exact Nat.le_refl _
    · exact Nat.le_of_lt (h.up k i h3 hi)
theorem Idl.noneMay {most : Int} {zs ms : List LoadV} {P : Nat → Nat} (h : Idl most zs zs.length ms P) (p : NoneMay most zs) : NoneMay most ms := by
  intro y hy
  obtain ⟨m, hm⟩ := List.mem_iff_getElem?.1 hy
  refine Bool.eq_false_iff.2 fun hh => ?_
  obtain ⟨i, hi, rfl⟩ := h.all m y hm hh
  obtain ⟨x, hx⟩ : ∃ x, zs[i]? = some x := ⟨_, List.getElem?_eq_getElem hi⟩
  rw [h.at_ i x hi hx] at hm
  cases hm
  rw [adj_may, p x (List.mem_of_getElem? hx)] at hh
  cases hh
theorem Bds.push {ms : List LoadV} {y : LoadV} (h : Bds ms) (h1 : -9223372036854775808 ≤ y.opn ∧ y.opn ≤ 9223372036854775807) (h2 : -9223372036854775808 ≤ y.left ∧ y.left ≤ 9223372036854775807) : Bds (ms ++ [y]) := by
  intro z hz
  rcases List.mem_append.1 hz with h' | h'
  · exact h z h'
  · rw [List.mem_singleton.1 h']; exact ⟨h1, h2⟩

/-- the list of places (block g), the list that grows -/
structure Ix (w0 W : World) (g : Nat) (ats : List Value) (v : Value) (ms : List LoadV) : Prop where
  k : Keeps Nowhere w0 W
  b : w0.heap.size ≤ g
  a : Cells W g 3 ats
  o : W.ownsRow w0.heap.size 23 4 v ms.length (lc ms)
  bd : Bds ms
variable {g q : Nat} {ats : List Value} {v : Value} {ms : List LoadV} {z : LoadV}
theorem Ix.quiet (h : Ix w0 W g ats v ms) (k : Keeps Nowhere W w') : Ix w0 w' g ats v ms := ⟨h.k.trans k, h.b, h.a.later k (fun x => x), owns_later h.o k (fun _ _ x => x), h.bd⟩
theorem Ix.ne (h : Ix w0 W g ats v ms) : v.ownBlock ≠ some g := owns_ne h.o h.a (by decide)
theorem Ix.set (h : Ix w0 W g ats v ms) (j : Nat) (u : Value) : Ix w0 (W.setCell ⟨g, j, none⟩ u) g (ats.set j u) v ms := by
  have K : Keeps (fun b => b = g) W (W.setCell ⟨g, j, none⟩ u) := (Keeps.refl _ _).setCell _ _ (fun _ => rfl)
  refine ⟨h.k.next K (fun k e hlt => by have := h.b; omega), h.b, h.a.setCell j u, owns_later h.o K (fun b hb e => h.ne (by rw [hb, e])), h.bd⟩
theorem Ix.lds (h : Ix w0 W g ats v ms) : LdsAt W v ms := lds_of_reads (owns_readsK h.o) h.bd
/-- with the box of a load that isn't the list's -/
structure Ib (w0 W : World) (g : Nat) (ats : List Value) (v : Value) (ms : List LoadV) (q : Nat) (z : LoadV) : Prop where
  x : Ix w0 W g ats v ms
  d : Cells W q 23 z.cells
  n : v.ownBlock ≠ some q
  s : w0.heap.size ≤ q
theorem Ib.quiet (h : Ib w0 W g ats v ms q z) (k : Keeps Nowhere W w') : Ib w0 w' g ats v ms q z := ⟨h.x.quiet k, h.d.later k (fun x => x), h.n, h.s⟩
theorem Ix.box (h : Ix w0 W g ats v ms) (z : LoadV) : Ib w0 (W.alloc (.cells z.cells.toArray 23)) g ats v ms W.heap.size z :=
  ⟨h.quiet ((Keeps.refl _ _).alloc _), Cells.new W _ _, fun e => by have := owns_lt h.o _ e; omega, h.k.size⟩
theorem Ib.gq (h : Ib w0 W g ats v ms q z) : g ≠ q := by
  intro e
  have h1 := h.x.a
  have h2 := h.d
  subst e
  unfold Cells at h1 h2
  rw [h1] at h2
  injection h2 with h2
  injection h2 with _ h2
  exact absurd h2 (by decide)
theorem Ib.set (h : Ib w0 W g ats v ms q z) (j : Nat) (u : Value) : Ib w0 (W.setCell ⟨g, j, none⟩ u) g (ats.set j u) v ms q z :=
  ⟨h.x.set j u, h.d.later (S := fun b => b = g) ((Keeps.refl _ _).setCell _ _ (fun _ => rfl)) (fun e => h.gq e.symm), h.n, h.s⟩
theorem Ib.left (h : Ib w0 W g ats v ms q z) (f : Int) : Ib w0 (W.setCell ⟨q, 3, none⟩ (.int .i64 f)) g ats v ms q ⟨z.live, z.drain, z.opn, f⟩ := by
  have K : Keeps (fun b => b = q) W (W.setCell ⟨q, 3, none⟩ (.int .i64 f)) := (Keeps.refl _ _).setCell _ _ (fun _ => rfl)
  exact ⟨⟨h.x.k.next K (fun k e hlt => by have := h.s; omega), h.x.b, h.x.a.later K h.gq, owns_later h.x.o K (fun b hb e => h.n (by rw [hb, e])), h.x.bd⟩, h.d.setCell 3 _, h.n, h.s⟩
theorem Ib.cells (h : Ib w0 W g ats v ms q z) : W.cell? ⟨q, 0, none⟩ = some (.bool z.live) ∧ W.cell? ⟨q, 1, none⟩ = some (.bool z.drain) ∧ W.cell? ⟨q, 2, none⟩ = some (.int .i64 z.opn) ∧ W.cell? ⟨q, 3, none⟩ = some (.int .i64 z.left) := ⟨by rw [h.d.cell]; rfl, by rw [h.d.cell]; rfl, by rw [h.d.cell]; rfl, by rw [h.d.cell]; rfl⟩
/-- append of one load that lies in a new block -/
theorem Ib.app (h : Ib w0 W g ats v ms q z) (y : LoadV) (hy1 : -9223372036854775808 ≤ y.opn ∧ y.opn ≤ 9223372036854775807) (hy2 : -9223372036854775808 ≤ y.left ∧ y.left ≤ 9223372036854775807) {N : Nat} (hN : ms.length + 1 = N) (hb : N * 24 ≤ 140737488355328) :
    ∃ (a : Option Addr) (c : Nat) (w' : World), Aside (∀ ty, (Builtin.append_ #[29, 29] ty #[v, .slice (some ⟨W.heap.size, 0, none⟩) 1 1]).run Tryd.prog (W.alloc (.cells y.cells.toArray 23)) = .ok (.slice a N c) w') ∧ Aside (Ib w0 w' g ats (.slice a N c) (ms ++ [y]) q z) := by
  obtain ⟨i, hi, hz0, hz1, hz2⟩ := info_parts infoL
  have h' := h.quiet ((Keeps.refl Nowhere W).alloc (.cells y.cells.toArray 23))
  obtain ⟨v', w', run, o', g', b'⟩ := run_appendR (P := Tryd.prog) (W.alloc (.cells y.cells.toArray 23)) w0.heap.size 29 23 i _ 4 24 Tryd.underlying29 hi hz0 hz1 hz2 rfl (by decide) v ms.length (lc ms) h'.x.o _ 1 y.cells (readsK_new W 23 y.cells) (by have := lc_one [y]; simpa [lc] using this) (by rw [hN]; exact hb) (by unfold maxLen; omega) h'.x.k.size
  have K0 := grown_keeps g'
  have K : Keeps Nowhere w0 w' := h'.x.k.next K0 (fun k e hlt => by have := owns_base h'.x.o k e; omega)
  have o2 : w'.ownsRow w0.heap.size 23 4 v' (ms ++ [y]).length (lc (ms ++ [y])) := by
    rw [List.length_append, lc_append]
    have e : lc [y] = y.cells := by simp [lc]
    rw [e]; exact o'
  obtain ⟨p, q', r, rfl⟩ := owns_shapeK o2
  have hq : q' = N := by
    rcases o2.2 with ⟨e, h0⟩ | ⟨g, cap, cur, e, _⟩
    · injection e with _ e _; rw [e, ← h0, List.length_append, ← hN]; rfl
    · injection e with _ e _; rw [e, List.length_append, ← hN]; rfl
  subst hq
  refine ⟨p, r, w', ⟨run⟩, ⟨⟨K, h.x.b, h'.x.a.later K0 (fun e => h.x.ne e), o2, h.x.bd.push hy1 hy2⟩, h'.d.later K0 (fun e => h.n e), fun e => ?_, h.s⟩⟩
  rcases b' q e with h1 | h1
  · exact h.n h1
  · have := h'.d.lt
    omega
theorem ix_begin (n : Nat) (hn : n ≤ 1048576) (w : World) : ∃ w', Aside (MakeRun Tryd.prog 36 n w (.slice (some ⟨w.heap.size, 0, none⟩) n n) w') ∧ Aside (Ix w w' w.heap.size (List.replicate n (.int .i64 0)) (.slice none 0 0) []) := by
  obtain ⟨i, hi, hz0, hz1, hz2⟩ := info_parts (P := Tryd.prog) (e := 3) (z := .int .i64 0) (size := 1) (bytes := 8) (by kernel_rfl)
  obtain ⟨w', run, c, k, _⟩ := run_makeK (P := Tryd.prog) w 36 3 i _ Tryd.underlying36 hi hz0 hz1 rfl n (by rw [hz2]; omega) (by omega)
  exact ⟨w', ⟨⟨run⟩⟩, ⟨k, Nat.le_refl _, c, ⟨rfl, .inl ⟨rfl, rfl⟩⟩, fun _ h => (by cases h)⟩⟩
end Go.Proofs.YtnhgpnkomkiniaaDoor
