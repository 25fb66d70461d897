/-
  two families of lists, each list with its owner (as TmA)
-/
import Derived.Test.YtcmgmhdlokcgbabDoorRowsS
import Derived.Test.YtcmgmhdlokcgbabDoorOwnB
import Derived.Test.YtcmgmhdlokcgbabDoorLuBl
import Derived.Deep.CutBlock
import Derived.Deep.DeepCutAuto
import Derived.Laws.OwnMore
namespace Go.Proofs.YtcmgmhdlokcgbabDoor
open Go.RowKit

section
variable {w w' w0 W : World} {own own' own0 : Nat → Nat} {l L : List Int} {v v' av gv y : Value} {vs ys : List Value} {f G : Nat → List Int} {k j b c g : Nat} {I : Nat → Prop} {t ts : TypeId} {m : Int → Value}
/-- a list of one owner: numbers, each as m writes it -/
abbrev Lx (t : TypeId) (m : Int → Value) (own : Nat → Nat) (o : Nat) (w : World) (v : Value) (l : List Int) : Prop := OwR own o w t 1 v l.length (l.map m)
abbrev mB : Int → Value := Value.int .u8
abbrev mI : Int → Value := Value.int .i64
/-- a list of lists (owner b; the k-th is c + 2 k), and what was grown out of them (owner g) -/
structure Fam (t ts : TypeId) (m : Int → Value) (b c g : Nat) (own : Nat → Nat) (W : World) (av : Value) (vs : List Value) (f : Nat → List Int) (gv : Value) (ys : List Value) (G : Nat → List Int) : Prop where
  all : OwR own b W ts 1 av vs.length vs
  xs : ∀ k v, vs[k]? = some v → Lx t m own (c + 2 * k) W v (f k)
  gr : OwR own g W ts 1 gv ys.length ys
  gs : ∀ k v, ys[k]? = some v → Lx t m own (c + 2 * k) W v (G k)
theorem Fam.sn (h : Fam t ts m b c g own w av vs f gv ys G) (s : Sn I own w own' w') (hb : ¬ I b) (hg : ¬ I g) (hc : ∀ k, ¬ I (c + 2 * k)) : Fam t ts m b c g own' w' av vs f gv ys G :=
  ⟨h.all.sn s hb, fun j v e => (h.xs j v e).sn s (hc j), h.gr.sn s hg, fun j v e => (h.gs j v e).sn s (hc j)⟩
theorem Fam.quiet (h : Fam t ts m b c g own w av vs f gv ys G) (k : Keeps Nowhere w w') : Fam t ts m b c g own w' av vs f gv ys G := h.sn (I := fun _ => False) (Sn.same k) (fun x => x) (fun x => x) (fun _ x => x)
/-- list k, and the odd rows (98), have changed -/
theorem Fam.at (h : Fam t ts m b c g own w av vs f gv ys G) (s : Sn (fun q => q = 98 ∨ q = c + 2 * k) own w own' w') (hb : b < 98) (hg : g < 98) (hc : 98 < c) (hk : ys.length ≤ k) (hv : vs[k]? = some v) (hX : Lx t m own' (c + 2 * k) w' v l) : Fam t ts m b c g own' w' av vs (fun j => if j = k then l else f j) gv ys G := by
  refine ⟨h.all.sn s (by omega), fun j u e => ?_, h.gr.sn s (by omega), fun j u e => ?_⟩
  · by_cases hj : j = k
    · subst hj
      rw [hv] at e
      injection e with e
      subst e
      rw [if_pos rfl]
      exact hX
    · rw [if_neg hj]
      exact (h.xs j u e).sn s (by omega)
  · have := (List.getElem?_eq_some_iff.1 e).1
    exact (h.gs j u e).sn s (by omega)
theorem Fam.gpush (h : Fam t ts m b c g own w av vs f gv ys G) (hb : b ≠ g) (hc : g < c) (hX : Lx t m own (c + 2 * ys.length) w v (G ys.length)) (hk : Keeps Nowhere w W) (ho : w'.ownsRow 0 ts 1 v' (ys.length + 1) (ys ++ [v])) (sp : Split gv v' 1 W w') : Fam t ts m b c g (give own w.heap.size g) w' av vs f v' (ys ++ [v]) G ∧ Sn (fun q => q = g) own w (give own w.heap.size g) w' := by
  obtain ⟨a, s⟩ := h.gr.app hk ho sp
  refine ⟨⟨h.all.sn s hb, fun j u e => (h.xs j u e).sn s (by omega), ?_, fun j u e => ?_⟩, s⟩
  · rw [List.length_append]; exact a
  · rcases Nat.lt_trichotomy j ys.length with hj | hj | hj
    · rw [List.getElem?_append_left hj] at e
      exact (h.gs j u e).sn s (by omega)
    · subst hj
      rw [List.getElem?_append_right (Nat.le_refl _)] at e
      simp at e
      subst e
      exact hX.sn s (by omega)
    · rw [List.getElem?_append_right (by omega), List.getElem?_eq_none (by simp; omega)] at e
      cases e
theorem Fam.more (h : Fam t ts m b c g own w av vs f gv ys G) {f2 : Nat → List Int} (hf : ∀ k, k < vs.length → f k = f2 k) : Fam t ts m b c g own w av vs f2 gv ys G := ⟨h.all, fun k v e => by rw [← hf k (List.getElem?_eq_some_iff.1 e).1]; exact h.xs k v e, h.gr, h.gs⟩
theorem rowL_cell {vs : List Value} {o : Nat} {e : TypeId} (h : OwR own o w e 1 av vs.length vs) {v : Value} (hv : vs[k]? = some v) : ∃ b c, av = .slice (some ⟨b, 0, none⟩) vs.length c ∧ vs.length ≤ c ∧ w.cell? ⟨b, k, none⟩ = some v := by
  rcases h.1.2 with ⟨a, y⟩ | ⟨g, cap, cur, rfl, _, _, h1, _⟩
  · rw [List.eq_nil_of_length_eq_zero y] at hv; simp at hv
  · have := h.1.cells rfl k v hv
    rw [add_none, Nat.zero_add] at this
    exact ⟨g, cap, rfl, h1, this⟩
theorem Lx.shape {o : Nat} (h : Lx t m own o w v l) : ∃ a c, v = .slice a l.length c ∧ l.length ≤ c := by
  rcases h.1.2 with ⟨rfl, h0⟩ | ⟨g, cap, cur, rfl, _, _, h1, _⟩
  · exact ⟨none, 0, by rw [h0], by omega⟩
  · exact ⟨_, _, rfl, h1⟩
theorem Lx.cell {o : Nat} (h : Lx t m own o w v l) {j : Nat} {y : Int} (hj : l[j]? = some y) : ∃ b c, v = .slice (some ⟨b, 0, none⟩) l.length c ∧ w.cell? ⟨b, j, none⟩ = some (m y) := by
  rcases h.1.2 with ⟨_, h0⟩ | ⟨g, cap, cur, rfl, _⟩
  · rw [List.eq_nil_of_length_eq_zero h0] at hj
    simp at hj
  · refine ⟨g, cap, rfl, ?_⟩
    have := h.1.cells rfl j (m y) (by rw [List.getElem?_map, hj]; rfl)
    rwa [add_none, Nat.zero_add] at this
/-- a number of a list is written over -/
theorem Lx.put {o : Nat} (h : Lx t m own o w v l) {i : Nat} (hi : i < l.length) (z : Int) : ∃ b c u0, v = .slice (some ⟨b, 0, none⟩) l.length c ∧ w.frozen? ⟨b, i, none⟩ = false ∧ w.cell? ⟨b, i, none⟩ = some u0 ∧ Lx t m own o (w.setCell ⟨b, i, none⟩ (m z)) v (l.set i z) ∧ Sn (fun q => q = 98 ∨ q = o) own w own (w.setCell ⟨b, i, none⟩ (m z)) := by
  obtain ⟨b, c, e1, e2⟩ := h.cell (List.getElem?_eq_getElem hi)
  obtain ⟨ho, hb⟩ := h
  subst e1
  have K : Keeps (fun q => own q = 98 ∨ own q = o) w (w.setCell ⟨b, i, none⟩ (m z)) := (Keeps.refl _ _).setCell _ _ (fun _ => .inr (hb b rfl).1)
  have o3 := owns_setCell ho i (by omega) (m z)
  refine ⟨b, c, _, rfl, owns_frozen ho i, e2, ⟨?_, fun q hq => ⟨(hb q hq).1, Nat.lt_of_lt_of_le (hb q hq).2 K.size⟩⟩, ⟨fun _ _ => rfl, K⟩⟩
  rw [List.length_set, List.map_set]
  exact o3
/-- the first i numbers written over -/
def partL (z : Int) (i : Nat) (L : List Int) : List Int := List.replicate i z ++ L.drop i
theorem partL_zero (z : Int) : partL z 0 L = L := by simp [partL]
theorem partL_len {z : Int} {i : Nat} (h : i ≤ L.length) : (partL z i L).length = L.length := by simp [partL]; omega
theorem partL_all {z : Int} : partL z L.length L = List.replicate L.length z := by simp [partL]
theorem partL_step {z : Int} {i : Nat} (h : i < L.length) : (partL z i L).set i z = partL z (i + 1) L := by
  have h1 : (List.replicate i z).length = i := by simp
  unfold partL
  rw [List.set_append_right _ _ (by omega), h1, Nat.sub_self, List.drop_eq_getElem_cons h, List.set_cons_zero]
  rw [List.replicate_succ', List.append_assoc]
  rfl
/-- the i-th list is being written over, those ahead of it are -/
def fL (val : Nat → Int) (f : Nat → List Int) (i j q : Nat) : List Int := if q < i then List.replicate (f q).length (val q) else if q = i then partL (val i) j (f q) else f q
variable {val : Nat → Int}
theorem fL_start (f : Nat → List Int) (q : Nat) : fL val f 0 0 q = f q := by
  unfold fL
  rw [if_neg (by omega)]
  split
  · exact partL_zero _
  · rfl
theorem fL_at (f : Nat → List Int) (i j : Nat) : fL val f i j i = partL (val i) j (f i) := by unfold fL; rw [if_neg (by omega), if_pos rfl]
theorem fL_len (f : Nat → List Int) {i j q : Nat} (h : j ≤ (f i).length) : (fL val f i j q).length = (f q).length := by
  unfold fL
  split
  · simp
  split
  · rename_i h; subst h; exact partL_len (by assumption)
  · rfl
theorem fL_step (f : Nat → List Int) (i j q : Nat) : (if q = i then partL (val i) (j + 1) (f i) else fL val f i j q) = fL val f i (j + 1) q := by
  unfold fL
  by_cases h : q = i
  · subst h; simp
  · simp [h]
theorem fL_all (f : Nat → List Int) (i q : Nat) : fL val f i (f i).length q = fL val f (i + 1) 0 q := by
  unfold fL
  by_cases h : q < i
  · rw [if_pos h, if_pos (by omega)]
  · rw [if_neg h]
    by_cases h2 : q = i
    · subst h2; rw [if_pos rfl, if_pos (by omega), partL_all]
    · rw [if_neg h2, if_neg (by omega)]
      by_cases h3 : q = i + 1
      · subst h3; rw [if_pos rfl, partL_zero]
      · rw [if_neg h3]
theorem fL_end (f : Nat → List Int) {i q : Nat} (h : q < i) : fL val f i 0 q = List.replicate (f q).length (val q) := by unfold fL; rw [if_pos h]
theorem rep_at {z : Int} {n i : Nat} (h : i < n) : (List.replicate n z)[i]? = some z := by simp [h]
theorem reads_one {e : TypeId} (W : World) (u : Value) : ReadsK 1 (W.alloc (.cells #[u] e)) (.slice (some ⟨W.heap.size, 0, none⟩) 1 1) 1 [u] :=
  ⟨rfl, _, 1, rfl, Nat.le_refl _, by decide, fun h => (by cases h), fun j y hj => ⟨_, _, rfl, by
    cases j with
    | zero => simp only [List.getElem?_cons_zero, Option.some.injEq] at hj; subst hj; exact (Cells.new W e [u]).cell 0
    | succ j => simp at hj⟩⟩
theorem slice_len {base k n : Nat} {e : TypeId} {u : Value} {zs : List Value} (h : w.ownsRow base e k u n zs) : ∃ a c, u = .slice a n c := by
  rcases h.2 with ⟨rfl, h0⟩ | ⟨g, cap, cur, rfl, _⟩
  · exact ⟨none, 0, by rw [h0]⟩
  · exact ⟨_, _, rfl⟩
theorem infoS : (Tryd.prog.info? 39).map (fun i => (i.zero, i.size, i.bytes)) = some (some (.slice none 0 0), 1, 24) := by kernel_rfl
/-- the grown list is pushed: of a family whose lists' type is ts, a list of them st -/
theorem Fam.gpushRun {st : TypeId} (h : Fam t ts m b c g own w av vs f gv ys G) (hst : Tryd.prog.underlying st = some (.slice ts)) (hin : (Tryd.prog.info? ts).map (fun i => (i.zero, i.size, i.bytes)) = some (some (.slice none 0 0), 1, 24)) (hb : b ≠ g) (hc : g < c) (hX : Lx t m own (c + 2 * ys.length) w v (G ys.length)) (hv : v.oneCell' = true) (hn : ys.length ≤ 16777216) : ∃ (a : Option Addr) (cp : Nat) (w' : World) (own' : Nat → Nat), (∀ ty, (Builtin.append_ #[st, st] ty #[gv, .slice (some ⟨w.heap.size, 0, none⟩) 1 1]).run Tryd.prog (w.alloc (.cells #[v] ts)) = .ok (.slice a (ys.length + 1) cp) w') ∧ Aside (Fam t ts m b c g own' w' av vs f (.slice a (ys.length + 1) cp) (ys ++ [v]) G ∧ Sn (fun q => q = g) own w own' w') := by
  obtain ⟨i, hi, hz0, hz1, hz2⟩ := info_parts hin
  have K : Keeps Nowhere w (w.alloc (.cells #[v] ts)) := (Keeps.refl _ _).alloc _
  obtain ⟨u, w', run, o', sp⟩ := run_appendS (P := Tryd.prog) (w.alloc (.cells #[v] ts)) st ts i _ 1 24 hst hi hz0 hz1 hz2 rfl (by decide) gv ys.length ys (owns_later h.gr.1 K (fun _ _ x => x)) (.slice (some ⟨w.heap.size, 0, none⟩) 1 1) 1 [v] (by decide) (reads_one w v) (by simp [hv]) (by omega) (by unfold maxLen; omega)
  obtain ⟨a, cp, rfl⟩ := slice_len o'
  exact ⟨a, cp, w', _, run, ⟨h.gpush hb hc hX K o' sp⟩⟩
theorem Lx.appRun {st : TypeId} {o q : Nat} {z0 : Value} (X : Lx t m own o w v l) (z : Int) (hst : Tryd.prog.underlying st = some (.slice t)) (hin : (Tryd.prog.info? t).map (fun i => (i.zero, i.size, i.bytes)) = some (some z0, 1, q)) (hz0 : z0.cells.size = 1) (hm : ∀ x, (m x).oneCell' = true) (hq : q ≤ 8) (hb : l.length ≤ 4398046511104) : ∃ (a : Option Addr) (cp : Nat) (w' : World) (own' : Nat → Nat), (∀ ty, (Builtin.append_ #[st, st] ty #[v, .slice (some ⟨w.heap.size, 0, none⟩) 1 1]).run Tryd.prog (w.alloc (.cells #[m z] t)) = .ok (.slice a (l.length + 1) cp) w') ∧ Aside (Lx t m own' o w' v l) ∧ Aside (Lx t m own' o w' (.slice a (l.length + 1) cp) (l ++ [z])) ∧ Aside (Sn (fun q => q = 98 ∨ q = o) own w own' w') := by
  obtain ⟨i, hi, hz0', hz1, hz2⟩ := info_parts hin
  have K : Keeps Nowhere w (w.alloc (.cells #[m z] t)) := (Keeps.refl _ _).alloc _
  obtain ⟨u, w', run, o', sp⟩ := run_appendS (P := Tryd.prog) (w.alloc (.cells #[m z] t)) st t i _ 1 q hst hi hz0' hz1 hz2 hz0 (by decide) v l.length _ (owns_later X.1 K (fun _ _ x => x)) (.slice (some ⟨w.heap.size, 0, none⟩) 1 1) 1 [m z] (by decide) (reads_one w _) (by simp [hm]) (Nat.le_trans (Nat.mul_le_mul_left _ hq) (by omega)) (by unfold maxLen; omega)
  obtain ⟨a, cp, rfl⟩ := slice_len o'
  obtain ⟨a1, s1⟩ := X.app K o' sp
  have a2 := X.stays (by simp) K o' sp
  refine ⟨a, cp, w', _, run, ⟨a2⟩, ⟨?_⟩, ⟨s1.mono (fun _ e => .inr e)⟩⟩
  unfold Lx
  rw [List.length_append, List.map_append]
  exact a1
end
end Go.Proofs.YtcmgmhdlokcgbabDoor
