/-
  apart (laws 06, 19): lists of bytes, each with its owner, what was grown out of them. Of whatever program that has the types of bytes.
-/
import Derived.Test.YtfphoaphdfhhiaaDoorRowsS
import Derived.Test.YtfphoaphdfhhiaaDoorOwnB
import Derived.Deep.CutBlock
import Derived.Deep.DeepCutAuto
import Derived.Laws.OwnMore
namespace Go.Proofs.YtfphoaphdfhhiaaDoor
open Go.RowKit

section
variable {w w' w0 W : World} {own own' own0 : Nat → Nat} {l L : List Int} {v v' av gv y : Value} {vs ys : List Value} {f : Nat → List Int} {k m j : Nat} {I : Nat → Prop}
abbrev eB (t : Int) : Value := .int .u8 t
/-- list k: these bytes -/
abbrev XB (own : Nat → Nat) (w : World) (k : Nat) (v : Value) (l : List Int) : Prop := OwR own (100 + 2 * k) w 5 1 v l.length (bv l)
/-- the t-th byte that is written into list k, or appended to it -/
def b7 (c k t : Nat) : Int := ((k * c + t) % 256 : Nat)
def w7 (c k n : Nat) : List Int := (List.range n).map (b7 c k)
theorem w7_len (c k n : Nat) : (w7 c k n).length = n := by simp [w7]
theorem w7_at {c k n t : Nat} (h : t < n) : (w7 c k n)[t]? = some (b7 c k t) := by simp [w7, h]
theorem w7_succ (c k n : Nat) : w7 c k (n + 1) = w7 c k n ++ [b7 c k n] := by simp [w7, List.range_succ]
/-- m bytes were appended to list k -/
abbrev GB (own : Nat → Nat) (w : World) (k : Nat) (v : Value) (l : List Int) (gv : Value) (m : Nat) : Prop := Grows own w 5 1 v l.length (bv l) (101 + 2 * k) gv m (bv (w7 11 k m))
def Ia (q : Nat) : Prop := q = 97 ∨ 100 ≤ q
structure Ap (own0 : Nat → Nat) (w0 : World) (av : Value) (vs : List Value) (f : Nat → List Int) (gv : Value) (ys : List Value) (m : Nat) (own : Nat → Nat) (W : World) : Prop where
  s : Sn Ia own0 w0 own W
  all : OwR own 5 W 35 1 av vs.length vs
  xs : ∀ k v, vs[k]? = some v → XB own W k v (f k)
  gr : OwR own 97 W 35 1 gv ys.length ys
  gs : ∀ k v y, k < m → vs[k]? = some v → ys[k]? = some y → GB own W k v (f k) y 40
theorem GB.sn (h : GB own w k v l gv m) (hX : XB own w k v l) (s : Sn I own w own' w') (h0 : ¬ I (100 + 2 * k)) (h1 : ¬ I (101 + 2 * k)) : GB own' w' k v l gv m := by
  refine ⟨owns_later h.1 s.keeps (fun b hb e => ?_), ?_⟩
  · rcases h.2 with ⟨b', c, rfl, rfl⟩ | hj
    · simp only [Value.ownBlock, Option.some.injEq] at hb
      subst hb
      rw [(hX.2 b' rfl).1] at e
      exact h0 e
    · rw [(hj b hb).1] at e
      exact h1 e
  · rcases h.2 with ⟨b', c, e1, e2⟩ | hj
    · exact .inl ⟨b', c, e1, e2⟩
    · exact .inr (fun b hb => ⟨(s.agree b (hj b hb).2).trans (hj b hb).1, Nat.lt_of_lt_of_le (hj b hb).2 s.keeps.size⟩)
/-- list k, and what is grown out of it, have changed -/
theorem Ap.at (h : Ap own0 w0 av vs f gv ys m own w) (s : Sn (fun q => q = 101 + 2 * k ∨ q = 100 + 2 * k) own w own' w') (hk : m ≤ k) (hv : vs[k]? = some v) (hX : XB own' w' k v l) : Ap own0 w0 av vs (fun j => if j = k then l else f j) gv ys m own' w' := by
  refine ⟨h.s.trans (s.mono (fun q e => by unfold Ia; omega)), h.all.sn s (by omega), fun j u e => ?_, h.gr.sn s (by omega), fun j u y' hjm e e' => ?_⟩
  · by_cases hj : j = k
    · subst hj
      rw [hv] at e
      injection e with e
      subst e
      rw [if_pos rfl]
      exact hX
    · rw [if_neg hj]
      exact (h.xs j u e).sn s (by omega)
  · rw [if_neg (by omega)]
    exact GB.sn (h.gs j u y' hjm e e') (h.xs j u e) s (by omega) (by omega)
theorem Ap.more (h : Ap own0 w0 av vs f gv ys m own w) {g : Nat → List Int} (hg : ∀ k, k < vs.length → f k = g k) : Ap own0 w0 av vs g gv ys m own w :=
  ⟨h.s, h.all, fun k v e => by rw [← hg k (List.getElem?_eq_some_iff.1 e).1]; exact h.xs k v e, h.gr, fun k v y hk e e' => by rw [← hg k (List.getElem?_eq_some_iff.1 e).1]; exact h.gs k v y hk e e'⟩
theorem rowS_cell {vs : List Value} {o : Nat} (h : OwR own o w 35 1 av vs.length vs) {v : Value} (hv : vs[k]? = some v) : ∃ b c, av = .slice (some ⟨b, 0, none⟩) vs.length c ∧ vs.length ≤ c ∧ w.cell? ⟨b, k, none⟩ = some v := by
  rcases h.1.2 with ⟨a, y⟩ | ⟨g, cap, cur, rfl, _, _, h1, _⟩
  · rw [List.eq_nil_of_length_eq_zero y] at hv; simp at hv
  · have := h.1.cells rfl k v hv
    rw [add_none, Nat.zero_add] at this
    exact ⟨g, cap, rfl, h1, this⟩
/-- grown[k] = g -/
theorem Ap.store (h : Ap own0 w0 av vs f gv ys k own w) (hk : k < ys.length) (hvs : vs[k]? = some v) (hG : GB own w k v (f k) y 40) : ∃ b c u0, gv = .slice (some ⟨b, 0, none⟩) ys.length c ∧ ys.length ≤ c ∧ w.frozen? ⟨b, k, none⟩ = false ∧ w.cell? ⟨b, k, none⟩ = some u0 ∧ Ap own0 w0 av vs f gv (ys.set k y) (k + 1) own (w.setCell ⟨b, k, none⟩ y) := by
  obtain ⟨b, c, e1, e2, e3⟩ := rowS_cell h.gr (List.getElem?_eq_getElem hk)
  have hb := h.gr.2
  have ho := h.gr.1
  subst e1
  have s : Sn (fun q => q = 97) own w own (w.setCell ⟨b, k, none⟩ y) := ⟨fun _ _ => rfl, (Keeps.refl _ _).setCell _ _ (fun _ => (hb b rfl).1)⟩
  have o3 := owns_setCell ho k (by omega) y
  refine ⟨b, c, _, rfl, e2, owns_frozen ho k, e3, ⟨h.s.trans (s.mono (fun q e => .inl e)), h.all.sn s (by decide), fun j u e => (h.xs j u e).sn s (by omega), ⟨by rw [List.length_set]; exact o3, fun q hq => ⟨(hb q hq).1, Nat.lt_of_lt_of_le (hb q hq).2 s.keeps.size⟩⟩, fun j u y' hj e e' => ?_⟩⟩
  by_cases hjk : j = k
  · subst hjk
    rw [hvs] at e
    injection e with e
    subst e
    rw [List.getElem?_set_self hk] at e'
    injection e' with e'
    subst e'
    exact GB.sn hG (h.xs j _ hvs) s (by omega) (by omega)
  · rw [List.getElem?_set_ne (fun x => hjk x.symm)] at e'
    exact GB.sn (h.gs j u y' (by omega) e e') (h.xs j u e) s (by omega) (by omega)
theorem XB.shape (h : XB own w k v l) : ∃ a c, v = .slice a l.length c ∧ l.length ≤ c := by
  rcases h.1.2 with ⟨rfl, h0⟩ | ⟨g, cap, cur, rfl, _, _, h1, _⟩
  · exact ⟨none, 0, by rw [h0], by omega⟩
  · exact ⟨_, _, rfl, h1⟩
theorem XB.cell (h : XB own w k v l) {j : Nat} {y : Int} (hj : l[j]? = some y) : ∃ b c, v = .slice (some ⟨b, 0, none⟩) l.length c ∧ w.cell? ⟨b, j, none⟩ = some (.int .u8 y) := by
  rcases h.1.2 with ⟨_, h0⟩ | ⟨g, cap, cur, rfl, _⟩
  · rw [List.eq_nil_of_length_eq_zero h0] at hj
    simp at hj
  · refine ⟨g, cap, rfl, ?_⟩
    have := h.1.cells rfl j (eB y) (by unfold bv; rw [List.getElem?_map, hj]; rfl)
    rwa [add_none, Nat.zero_add] at this
theorem GB.cell (h : GB own w k v l gv m) (hj : j < m) : ∃ b c, gv = .slice (some ⟨b, 0, none⟩) (l.length + m) c ∧ l.length + m ≤ c ∧ w.cell? ⟨b, l.length + j, none⟩ = some (.int .u8 (b7 11 k j)) := by
  rcases h.1.2 with ⟨_, h0⟩ | ⟨g, cap, cur, rfl, _, _, h1, _⟩
  · omega
  · refine ⟨g, cap, rfl, h1, ?_⟩
    have := h.1.cells rfl (l.length + j) (eB (b7 11 k j)) (by
      rw [List.getElem?_append_right (by rw [bv_length]; omega), bv_length, Nat.add_sub_cancel_left]
      unfold bv
      rw [List.getElem?_map, w7_at hj]; rfl)
    rwa [add_none, Nat.zero_add] at this
/-- a byte of list k is written over -/
theorem XB.put (h : XB own w k v l) {i : Nat} (hi : i < l.length) (t : Int) : ∃ b c u0, v = .slice (some ⟨b, 0, none⟩) l.length c ∧ w.frozen? ⟨b, i, none⟩ = false ∧ w.cell? ⟨b, i, none⟩ = some u0 ∧ XB own (w.setCell ⟨b, i, none⟩ (eB t)) k v (l.set i t) ∧ Sn (fun q => q = 101 + 2 * k ∨ q = 100 + 2 * k) own w own (w.setCell ⟨b, i, none⟩ (eB t)) := by
  obtain ⟨b, c, e1, e2⟩ := h.cell (List.getElem?_eq_getElem hi)
  obtain ⟨ho, hb⟩ := h
  subst e1
  have K : Keeps (fun q => own q = 101 + 2 * k ∨ own q = 100 + 2 * k) w (w.setCell ⟨b, i, none⟩ (eB t)) := (Keeps.refl _ _).setCell _ _ (fun _ => .inr (hb b rfl).1)
  have o3 := owns_setCell ho i (by omega) (eB t)
  refine ⟨b, c, _, rfl, owns_frozen ho i, e2, ⟨?_, fun q hq => ⟨(hb q hq).1, Nat.lt_of_lt_of_le (hb q hq).2 K.size⟩⟩, ⟨fun _ _ => rfl, K⟩⟩
  unfold bv
  rw [List.length_set, List.map_set]
  exact o3
/-- the first i bytes written over -/
def part (k i : Nat) (L : List Int) : List Int := w7 7 k i ++ L.drop i
theorem part_zero (k : Nat) : part k 0 L = L := by simp [part, w7]
theorem part_len {k i : Nat} (h : i ≤ L.length) : (part k i L).length = L.length := by simp [part, w7_len]; omega
theorem part_all {k : Nat} : part k L.length L = w7 7 k L.length := by simp [part]
theorem part_step {k i : Nat} (h : i < L.length) : (part k i L).set i (b7 7 k i) = part k (i + 1) L := by
  unfold part
  rw [List.set_append_right _ _ (by rw [w7_len]; omega), w7_len, Nat.sub_self, List.drop_eq_getElem_cons h, List.set_cons_zero, w7_succ, List.append_assoc]
  rfl
/-- the i-th list is being written over, those ahead of it are -/
def f7 (f : Nat → List Int) (i j q : Nat) : List Int := if q < i then w7 7 q (f q).length else if q = i then part i j (f q) else f q
theorem f7_start (f : Nat → List Int) (q : Nat) : f7 f 0 0 q = f q := by
  unfold f7
  rw [if_neg (by omega)]
  split
  · exact part_zero _
  · rfl
theorem f7_at (f : Nat → List Int) (i j : Nat) : f7 f i j i = part i j (f i) := by unfold f7; rw [if_neg (by omega), if_pos rfl]
theorem f7_len (f : Nat → List Int) {i j q : Nat} (h : j ≤ (f i).length) : (f7 f i j q).length = (f q).length := by
  unfold f7
  split
  · exact w7_len _ _ _
  split
  · rename_i h; subst h; exact part_len (by assumption)
  · rfl
theorem f7_step (f : Nat → List Int) (i j q : Nat) : (if q = i then part i (j + 1) (f i) else f7 f i j q) = f7 f i (j + 1) q := by
  unfold f7
  by_cases h : q = i
  · subst h; simp
  · simp [h]
theorem f7_all (f : Nat → List Int) (i q : Nat) : f7 f i (f i).length q = f7 f (i + 1) 0 q := by
  unfold f7
  by_cases h : q < i
  · rw [if_pos h, if_pos (by omega)]
  · rw [if_neg h]
    by_cases h2 : q = i
    · subst h2; rw [if_pos rfl, if_pos (by omega), part_all]
    · rw [if_neg h2, if_neg (by omega)]
      by_cases h3 : q = i + 1
      · subst h3; rw [if_pos rfl, part_zero]
      · rw [if_neg h3]
theorem f7_end (f : Nat → List Int) {i q : Nat} (h : q < i) : f7 f i 0 q = w7 7 q (f q).length := by unfold f7; rw [if_pos h]
theorem infoL : (Tryd.prog.info? 35).map (fun i => (i.zero, i.size, i.bytes)) = some (some (.slice none 0 0), 1, 24) := by kernel_rfl
theorem reads_one {e : TypeId} (W : World) (u : Value) : ReadsK 1 (W.alloc (.cells #[u] e)) (.slice (some ⟨W.heap.size, 0, none⟩) 1 1) 1 [u] :=
  ⟨rfl, _, 1, rfl, Nat.le_refl _, by decide, fun h => (by cases h), fun j y hj => ⟨_, _, rfl, by
    cases j with
    | zero => simp only [List.getElem?_cons_zero, Option.some.injEq] at hj; subst hj; exact (Cells.new W e [u]).cell 0
    | succ j => simp at hj⟩⟩
theorem slice_len {base k n : Nat} {e : TypeId} {u : Value} {zs : List Value} (h : w.ownsRow base e k u n zs) : ∃ a c, u = .slice a n c := by
  rcases h.2 with ⟨rfl, h0⟩ | ⟨g, cap, cur, rfl, _⟩
  · exact ⟨none, 0, by rw [h0]⟩
  · exact ⟨_, _, rfl⟩
theorem GB.run (G : GB own w k v l gv j) (X : XB own w k v l) (hb : l.length ≤ 4398046511104) (hj : j ≤ 64) (t : Int) (ht : b7 11 k j = t) : ∃ (a : Option Addr) (c : Nat) (w' : World) (own' : Nat → Nat), (∀ ty, (Builtin.append_ #[35, 35] ty #[gv, .slice (some ⟨w.heap.size, 0, none⟩) 1 1]).run Tryd.prog (w.alloc (.cells #[.int .u8 t] 5)) = .ok (.slice a (l.length + (j + 1)) c) w') ∧ Aside (XB own' w' k v l) ∧ Aside (GB own' w' k v l (.slice a (l.length + (j + 1)) c) (j + 1)) ∧ Aside (Sn (fun q => q = 101 + 2 * k ∨ q = 100 + 2 * k) own w own' w') := by
  subst ht
  obtain ⟨i, hi, hz0, hz1, hz2⟩ := info_parts u8info
  have K : Keeps Nowhere w (w.alloc (.cells #[.int .u8 (b7 11 k j)] 5)) := (Keeps.refl _ _).alloc _
  obtain ⟨u, w', run, o', sp⟩ := run_appendS (P := Tryd.prog) (w.alloc (.cells #[.int .u8 (b7 11 k j)] 5)) 35 5 i _ 1 1 Tryd.underlying35 hi hz0 hz1 hz2 rfl (by decide) gv (l.length + j) _ (owns_later G.1 K (fun _ _ x => x)) (.slice (some ⟨w.heap.size, 0, none⟩) 1 1) 1 [.int .u8 (b7 11 k j)] (by decide) (reads_one w _) (by simp [Value.oneCell']) (by omega) (by unfold maxLen; omega)
  obtain ⟨a, c, rfl⟩ := slice_len o'
  obtain ⟨X2, G2, S2⟩ := Grows.app X (by simp [bv]) G (by omega) K o' sp
  refine ⟨a, c, w', _, run, ⟨X2⟩, ⟨?_⟩, ⟨S2⟩⟩
  have e : bv (w7 11 k (j + 1)) = bv (w7 11 k j) ++ [.int .u8 (b7 11 k j)] := by rw [w7_succ, bv_append]; rfl
  unfold GB
  rw [e]
  exact G2
/-- make([][]byte, n) -/
theorem makeL (w : World) (n : Nat) (hn : n ≤ 1048576 * 4) : ∃ w', (Instr.makeSlice 26 (.int .i64 n) (.int .i64 n)).run Tryd.prog w = .ok (.slice (some ⟨w.heap.size, 0, none⟩) n n) w' ∧ Aside (OwR (give own w.heap.size 97) 97 w' 35 1 (.slice (some ⟨w.heap.size, 0, none⟩) n n) (List.replicate n (Value.slice none 0 0)).length (List.replicate n (Value.slice none 0 0))) ∧ Aside (Keeps Nowhere w w') := by
  obtain ⟨i, hi, hz0, hz1, hz2⟩ := info_parts infoL
  have h := run_make (P := Tryd.prog) w 26 35 i _ Tryd.underlying26 hi hz0 .i64 .i64 n n (by omega) (by omega) (by rw [hz2]; omega) (by omega)
  rw [hz1] at h
  refine ⟨_, h, ⟨⟨⟨?_, .inr ⟨w.heap.size, n, madeCells #[.slice none 0 0] (n * 1), ?_, Nat.zero_le _, ?_, by simp, by unfold maxLen; omega, by simp [size_madeCells], ?_⟩⟩, fun b hb => ?_⟩⟩, ⟨(Keeps.refl _ _).alloc _⟩⟩
  · simp
  · simp
  · exact heap_alloc_new w _
  · rw [toList_madeCells_one]; simp
  · simp only [Value.ownBlock, Option.some.injEq] at hb
    subst hb
    exact ⟨give_new (Nat.le_refl _), by rw [World.size_alloc]; omega⟩
end
end Go.Proofs.YtfphoaphdfhhiaaDoor
