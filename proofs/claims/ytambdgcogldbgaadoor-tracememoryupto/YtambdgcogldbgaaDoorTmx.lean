import Derived.Test.YtambdgcogldbgaaDoorRowsS
import Derived.Test.YtambdgcogldbgaaDoorOwnB
import Derived.Test.YtambdgcogldbgaaDoorTrE
import Derived.Deep.CutBlock
import Derived.Deep.DeepCutAuto
import Derived.Laws.OwnMore
import Derived.Test.YtambdgcogldbgaaDoorTrP
import Derived.Test.YtambdgcogldbgaaDoorTsx
/-
  apart (law 24): two families of lists, each list with its owner, and what was grown out of them
-/
namespace Go.Proofs.YtambdgcogldbgaaDoor
open Go.RowKit

section
variable {w w' w0 W : World} {own own' own0 : Nat → Nat} {l L : List Int} {v v' av gv y : Value} {vs ys : List Value} {f G : Nat → List Int} {k j b c g : Nat} {I : Nat → Prop} {t ts : TypeId} {m : Int → Value}
/-- a list of one owner: numbers, each as m writes it -/
abbrev Lx (t : TypeId) (m : Int → Value) (own : Nat → Nat) (o : Nat) (w : World) (v : Value) (l : List Int) : Prop := OwR own o w t 1 v l.length (l.map m)
abbrev mB : Int → Value := Value.int .u8
abbrev mI : Int → Value := Value.int .i64
/-- a list of lists (owner b; the k-th is c + 2 k), and what was grown out of them (owner g) -/
structure Fam (t ts : TypeId) (m : Int → Value) (b c g : Nat) (own : Nat → Nat) (W : World) (av : Value) (vs : List Value) (f : Nat → List Int) (gv : Value) (ys : List Value) (G : Nat → List Int) : Prop where
  all : OwR own b W ts 1 av vs.length vs
  xs : ∀ k v, vs[k]? = some v → Lx t m own (c + 2 * k) W v (f k)
  gr : OwR own g W ts 1 gv ys.length ys
  gs : ∀ k v, ys[k]? = some v → Lx t m own (c + 2 * k) W v (G k)
theorem Fam.sn (h : Fam t ts m b c g own w av vs f gv ys G) (s : Sn I own w own' w') (hb : ¬ I b) (hg : ¬ I g) (hc : ∀ k, ¬ I (c + 2 * k)) : Fam t ts m b c g own' w' av vs f gv ys G :=
  ⟨h.all.sn s hb, fun j v e => (h.xs j v e).sn s (hc j), h.gr.sn s hg, fun j v e => (h.gs j v e).sn s (hc j)⟩
theorem Fam.quiet (h : Fam t ts m b c g own w av vs f gv ys G) (k : Keeps Nowhere w w') : Fam t ts m b c g own w' av vs f gv ys G := h.sn (I := fun _ => False) (Sn.same k) (fun x => x) (fun x => x) (fun _ x => x)
/-- list k, and the odd rows (98), have changed -/
theorem Fam.at (h : Fam t ts m b c g own w av vs f gv ys G) (s : Sn (fun q => q = 98 ∨ q = c + 2 * k) own w own' w') (hb : b < 98) (hg : g < 98) (hc : 98 < c) (hk : ys.length ≤ k) (hv : vs[k]? = some v) (hX : Lx t m own' (c + 2 * k) w' v l) : Fam t ts m b c g own' w' av vs (fun j => if j = k then l else f j) gv ys G := by
  refine ⟨h.all.sn s (by omega), fun j u e => ?_, h.gr.sn s (by omega), fun j u e => ?_⟩
  · by_cases hj : j = k
    · subst hj
      rw [hv] at e
      injection e with e
      subst e
      rw [if_pos rfl]
      exact hX
    · rw [if_neg hj]
      exact (h.xs j u e).sn s (by omega)
  · have := (List.getElem?_eq_some_iff.1 e).1
    exact (h.gs j u e).sn s (by omega)
theorem Fam.gpush (h : Fam t ts m b c g own w av vs f gv ys G) (hb : b ≠ g) (hc : g < c) (hX : Lx t m own (c + 2 * ys.length) w v (G ys.length)) (hk : Keeps Nowhere w W) (ho : w'.ownsRow 0 ts 1 v' (ys.length + 1) (ys ++ [v])) (sp : Split gv v' 1 W w') : Fam t ts m b c g (give own w.heap.size g) w' av vs f v' (ys ++ [v]) G ∧ Sn (fun q => q = g) own w (give own w.heap.size g) w' := by
  obtain ⟨a, s⟩ := h.gr.app hk ho sp
  refine ⟨⟨h.all.sn s hb, fun j u e => (h.xs j u e).sn s (by omega), ?_, fun j u e => ?_⟩, s⟩
  · rw [List.length_append]; exact a
  · rcases Nat.lt_trichotomy j ys.length with hj | hj | hj
    · rw [List.getElem?_append_left hj] at e
      exact (h.gs j u e).sn s (by omega)
    · subst hj
      rw [List.getElem?_append_right (Nat.le_refl _)] at e
      simp at e
      subst e
      exact hX.sn s (by omega)
    · rw [List.getElem?_append_right (by omega), List.getElem?_eq_none (by simp; omega)] at e
      cases e
theorem Fam.more (h : Fam t ts m b c g own w av vs f gv ys G) {f2 : Nat → List Int} (hf : ∀ k, k < vs.length → f k = f2 k) : Fam t ts m b c g own w av vs f2 gv ys G := ⟨h.all, fun k v e => by rw [← hf k (List.getElem?_eq_some_iff.1 e).1]; exact h.xs k v e, h.gr, h.gs⟩
theorem rowL_cell {vs : List Value} {o : Nat} {e : TypeId} (h : OwR own o w e 1 av vs.length vs) {v : Value} (hv : vs[k]? = some v) : ∃ b c, av = .slice (some ⟨b, 0, none⟩) vs.length c ∧ vs.length ≤ c ∧ w.cell? ⟨b, k, none⟩ = some v := by
  rcases h.1.2 with ⟨a, y⟩ | ⟨g, cap, cur, rfl, _, _, h1, _⟩
  · rw [List.eq_nil_of_length_eq_zero y] at hv; simp at hv
  · have := h.1.cells rfl k v hv
    rw [add_none, Nat.zero_add] at this
    exact ⟨g, cap, rfl, h1, this⟩
theorem Lx.shape {o : Nat} (h : Lx t m own o w v l) : ∃ a c, v = .slice a l.length c ∧ l.length ≤ c := by
  rcases h.1.2 with ⟨rfl, h0⟩ | ⟨g, cap, cur, rfl, _, _, h1, _⟩
  · exact ⟨none, 0, by rw [h0], by omega⟩
  · exact ⟨_, _, rfl, h1⟩
theorem Lx.cell {o : Nat} (h : Lx t m own o w v l) {j : Nat} {y : Int} (hj : l[j]? = some y) : ∃ b c, v = .slice (some ⟨b, 0, none⟩) l.length c ∧ w.cell? ⟨b, j, none⟩ = some (m y) := by
  rcases h.1.2 with ⟨_, h0⟩ | ⟨g, cap, cur, rfl, _⟩
  · rw [List.eq_nil_of_length_eq_zero h0] at hj
    simp at hj
  · refine ⟨g, cap, rfl, ?_⟩
    have := h.1.cells rfl j (m y) (by rw [List.getElem?_map, hj]; rfl)
    rwa [add_none, Nat.zero_add] at this
/-- a number of a list is written over -/
theorem Lx.put {o : Nat} (h : Lx t m own o w v l) {i : Nat} (hi : i < l.length) (z : Int) : ∃ b c u0, v = .slice (some ⟨b, 0, none⟩) l.length c ∧ w.frozen? ⟨b, i, none⟩ = false ∧ w.cell? ⟨b, i, none⟩ = some u0 ∧ Lx t m own o (w.setCell ⟨b, i, none⟩ (m z)) v (l.set i z) ∧ Sn (fun q => q = 98 ∨ q = o) own w own (w.setCell ⟨b, i, none⟩ (m z)) := by
  obtain ⟨b, c, e1, e2⟩ := h.cell (List.getElem?_eq_getElem hi)
  obtain ⟨ho, hb⟩ := h
  subst e1
  have K : Keeps (fun q => own q = 98 ∨ own q = o) w (w.setCell ⟨b, i, none⟩ (m z)) := (Keeps.refl _ _).setCell _ _ (fun _ => .inr (hb b rfl).1)
  have o3 := owns_setCell ho i (by omega) (m z)
  refine ⟨b, c, _, rfl, owns_frozen ho i, e2, ⟨?_, fun q hq => ⟨(hb q hq).1, Nat.lt_of_lt_of_le (hb q hq).2 K.size⟩⟩, ⟨fun _ _ => rfl, K⟩⟩
  rw [List.length_set, List.map_set]
  exact o3
/-- the first i numbers written over -/
def partL (z : Int) (i : Nat) (L : List Int) : List Int := List.replicate i z ++ L.drop i
theorem partL_zero (z : Int) : partL z 0 L = L := by simp [partL]
theorem partL_len {z : Int} {i : Nat} (h : i ≤ L.length) : (partL z i L).length = L.length := by simp [partL]; omega
theorem partL_all {z : Int} : partL z L.length L = List.replicate L.length z := by simp [partL]
theorem partL_step {z : Int} {i : Nat} (h : i < L.length) : (partL z i L).set i z = partL z (i + 1) L := by
  have h1 : (List.replicate i z).length = i := by simp
  unfold partL
  rw [List.set_append_right _ _ (by omega), h1, Nat.sub_self, List.drop_eq_getElem_cons h, List.set_cons_zero]
  rw [List.replicate_succ', List.append_assoc]
  rfl
/-- the i-th list is being written over, those ahead of it are -/
def fL (val : Nat → Int) (f : Nat → List Int) (i j q : Nat) : List Int := if q < i then List.replicate (f q).length (val q) else if q = i then partL (val i) j (f q) else f q
variable {val : Nat → Int}
theorem fL_start (f : Nat → List Int) (q : Nat) : fL val f 0 0 q = f q := by
  unfold fL
  rw [if_neg (by omega)]
  split
  · exact partL_zero _
  · rfl
theorem fL_at (f : Nat → List Int) (i j : Nat) : fL val f i j i = partL (val i) j (f i) := by unfold fL; rw [if_neg (by omega), if_pos rfl]
theorem fL_len (f : Nat → List Int) {i j q : Nat} (h : j ≤ (f i).length) : (fL val f i j q).length = (f q).length := by
  unfold fL
  split
  · simp
  split
  · rename_i h; subst h; exact partL_len (by assumption)
  · rfl
theorem fL_step (f : Nat → List Int) (i j q : Nat) : (if q = i then partL (val i) (j + 1) (f i) else fL val f i j q) = fL val f i (j + 1) q := by
  unfold fL
  by_cases h : q = i
  · subst h; simp
  · simp [h]
theorem fL_all (f : Nat → List Int) (i q : Nat) : fL val f i (f i).length q = fL val f (i + 1) 0 q := by
  unfold fL
  by_cases h : q < i
  · rw [if_pos h, if_pos (by omega)]
  · rw [if_neg h]
    by_cases h2 : q = i
    · subst h2; rw [if_pos rfl, if_pos (by omega), partL_all]
    · rw [if_neg h2, if_neg (by omega)]
      by_cases h3 : q = i + 1
      · subst h3; rw [if_pos rfl, partL_zero]
      · rw [if_neg h3]
theorem fL_end (f : Nat → List Int) {i q : Nat} (h : q < i) : fL val f i 0 q = List.replicate (f q).length (val q) := by unfold fL; rw [if_pos h]
theorem rep_at {z : Int} {n i : Nat} (h : i < n) : (List.replicate n z)[i]? = some z := by simp [h]
theorem reads_one {e : TypeId} (W : World) (u : Value) : ReadsK 1 (W.alloc (.cells #[u] e)) (.slice (some ⟨W.heap.size, 0, none⟩) 1 1) 1 [u] :=
  ⟨rfl, _, 1, rfl, Nat.le_refl _, by decide, fun h => (by cases h), fun j y hj => ⟨_, _, rfl, by
    cases j with
    | zero => simp only [List.getElem?_cons_zero, Option.some.injEq] at hj; subst hj; exact (Cells.new W e [u]).cell 0
    | succ j => simp at hj⟩⟩
theorem slice_len {base k n : Nat} {e : TypeId} {u : Value} {zs : List Value} (h : w.ownsRow base e k u n zs) : ∃ a c, u = .slice a n c := by
  rcases h.2 with ⟨rfl, h0⟩ | ⟨g, cap, cur, rfl, _⟩
  · exact ⟨none, 0, by rw [h0]⟩
  · exact ⟨_, _, rfl⟩
theorem infoL : (Tryd.prog.info? 29).map (fun i => (i.zero, i.size, i.bytes)) = some (some (.slice none 0 0), 1, 24) := by kernel_rfl
theorem infoS : (Tryd.prog.info? 47).map (fun i => (i.zero, i.size, i.bytes)) = some (some (.slice none 0 0), 1, 24) := by kernel_rfl
/-- the grown list is pushed: of a family whose lists' type is ts, a list of them st -/
theorem Fam.gpushRun {st : TypeId} (h : Fam t ts m b c g own w av vs f gv ys G) (hst : Tryd.prog.underlying st = some (.slice ts)) (hin : (Tryd.prog.info? ts).map (fun i => (i.zero, i.size, i.bytes)) = some (some (.slice none 0 0), 1, 24)) (hb : b ≠ g) (hc : g < c) (hX : Lx t m own (c + 2 * ys.length) w v (G ys.length)) (hv : v.oneCell' = true) (hn : ys.length ≤ 16777216) : ∃ (a : Option Addr) (cp : Nat) (w' : World) (own' : Nat → Nat), (∀ ty, (Builtin.append_ #[st, st] ty #[gv, .slice (some ⟨w.heap.size, 0, none⟩) 1 1]).run Tryd.prog (w.alloc (.cells #[v] ts)) = .ok (.slice a (ys.length + 1) cp) w') ∧ Aside (Fam t ts m b c g own' w' av vs f (.slice a (ys.length + 1) cp) (ys ++ [v]) G ∧ Sn (fun q => q = g) own w own' w') := by
  obtain ⟨i, hi, hz0, hz1, hz2⟩ := info_parts hin
  have K : Keeps Nowhere w (w.alloc (.cells #[v] ts)) := (Keeps.refl _ _).alloc _
  obtain ⟨u, w', run, o', sp⟩ := run_appendS (P := Tryd.prog) (w.alloc (.cells #[v] ts)) st ts i _ 1 24 hst hi hz0 hz1 hz2 rfl (by decide) gv ys.length ys (owns_later h.gr.1 K (fun _ _ x => x)) (.slice (some ⟨w.heap.size, 0, none⟩) 1 1) 1 [v] (by decide) (reads_one w v) (by simp [hv]) (by omega) (by unfold maxLen; omega)
  obtain ⟨a, cp, rfl⟩ := slice_len o'
  exact ⟨a, cp, w', _, run, ⟨h.gpush hb hc hX K o' sp⟩⟩
abbrev Gq (t : TypeId) (m : Int → Value) (z : Int) (own : Nat → Nat) (w : World) (v : Value) (l : List Int) (gv : Value) (j : Nat) : Prop := Grows own w t 1 v l.length (l.map m) 98 gv j (List.replicate j (m z))
theorem Gq.run {st : TypeId} {z : Int} {o q : Nat} {z0 : Value} (G : Gq t m z own w v l gv j) (X : Lx t m own o w v l) (hst : Tryd.prog.underlying st = some (.slice t)) (hin : (Tryd.prog.info? t).map (fun i => (i.zero, i.size, i.bytes)) = some (some z0, 1, q)) (hz0 : z0.cells.size = 1) (hm : ∀ x, (m x).oneCell' = true) (hq : q ≤ 8) (ho : o ≠ 98) (hb : l.length ≤ 4398046511104) (hj : j ≤ 64) : ∃ (a : Option Addr) (cp : Nat) (w' : World) (own' : Nat → Nat), (∀ ty, (Builtin.append_ #[st, st] ty #[gv, .slice (some ⟨w.heap.size, 0, none⟩) 1 1]).run Tryd.prog (w.alloc (.cells #[m z] t)) = .ok (.slice a (l.length + (j + 1)) cp) w') ∧ Aside (Lx t m own' o w' v l) ∧ Aside (Gq t m z own' w' v l (.slice a (l.length + (j + 1)) cp) (j + 1)) ∧ Aside (Sn (fun q => q = 98 ∨ q = o) own w own' w') := by
  obtain ⟨i, hi, hz0', hz1, hz2⟩ := info_parts hin
  have K : Keeps Nowhere w (w.alloc (.cells #[m z] t)) := (Keeps.refl _ _).alloc _
  obtain ⟨u, w', run, o', sp⟩ := run_appendS (P := Tryd.prog) (w.alloc (.cells #[m z] t)) st t i _ 1 q hst hi hz0' hz1 hz2 hz0 (by decide) gv (l.length + j) _ (owns_later G.1 K (fun _ _ x => x)) (.slice (some ⟨w.heap.size, 0, none⟩) 1 1) 1 [m z] (by decide) (reads_one w _) (by simp [hm]) (Nat.le_trans (Nat.mul_le_mul_left _ hq) (by omega)) (by unfold maxLen; omega)
  obtain ⟨a, cp, rfl⟩ := slice_len o'
  obtain ⟨X2, G2, S2⟩ := Grows.app X (by simp) G ho K o' sp
  rw [← List.replicate_succ'] at G2
  exact ⟨a, cp, w', _, run, ⟨X2⟩, ⟨G2⟩, ⟨S2⟩⟩
theorem Lx.appRun {st : TypeId} {o q : Nat} {z0 : Value} (X : Lx t m own o w v l) (z : Int) (hst : Tryd.prog.underlying st = some (.slice t)) (hin : (Tryd.prog.info? t).map (fun i => (i.zero, i.size, i.bytes)) = some (some z0, 1, q)) (hz0 : z0.cells.size = 1) (hm : ∀ x, (m x).oneCell' = true) (hq : q ≤ 8) (hb : l.length ≤ 4398046511104) : ∃ (a : Option Addr) (cp : Nat) (w' : World) (own' : Nat → Nat), (∀ ty, (Builtin.append_ #[st, st] ty #[v, .slice (some ⟨w.heap.size, 0, none⟩) 1 1]).run Tryd.prog (w.alloc (.cells #[m z] t)) = .ok (.slice a (l.length + 1) cp) w') ∧ Aside (Lx t m own' o w' v l) ∧ Aside (Lx t m own' o w' (.slice a (l.length + 1) cp) (l ++ [z])) ∧ Aside (Sn (fun q => q = 98 ∨ q = o) own w own' w') := by
  obtain ⟨i, hi, hz0', hz1, hz2⟩ := info_parts hin
  have K : Keeps Nowhere w (w.alloc (.cells #[m z] t)) := (Keeps.refl _ _).alloc _
  obtain ⟨u, w', run, o', sp⟩ := run_appendS (P := Tryd.prog) (w.alloc (.cells #[m z] t)) st t i _ 1 q hst hi hz0' hz1 hz2 hz0 (by decide) v l.length _ (owns_later X.1 K (fun _ _ x => x)) (.slice (some ⟨w.heap.size, 0, none⟩) 1 1) 1 [m z] (by decide) (reads_one w _) (by simp [hm]) (Nat.le_trans (Nat.mul_le_mul_left _ hq) (by omega)) (by unfold maxLen; omega)
  obtain ⟨a, cp, rfl⟩ := slice_len o'
  obtain ⟨a1, s1⟩ := X.app K o' sp
  have a2 := X.stays (by simp) K o' sp
  refine ⟨a, cp, w', _, run, ⟨a2⟩, ⟨?_⟩, ⟨s1.mono (fun _ e => .inr e)⟩⟩
  unfold Lx
  rw [List.length_append, List.map_append]
  exact a1
def Iq (q : Nat) : Prop := 96 ≤ q
/-- the two families above what was there -/
structure Aq (own0 : Nat → Nat) (w0 : World) (own : Nat → Nat) (W : World) (ra : Value) (rs : List Value) (f : Nat → List Int) (ga : Value) (gs : List Value) (G : Nat → List Int) (ka : Value) (ks : List Value) (f2 : Nat → List Int) (na : Value) (ns : List Value) (G2 : Nat → List Int) : Prop where
  s : Sn Iq own0 w0 own W
  p : Fam 5 29 mB 5 100 97 own W ra rs f ga gs G
  q : Fam 3 47 mI 6 101 96 own W ka ks f2 na ns G2
variable {ra ka ga na : Value} {rs ks gs ns : List Value} {f2 G2 : Nat → List Int}
theorem Aq.at1 (h : Aq own0 w0 own w ra rs f ga gs G ka ks f2 na ns G2) (s : Sn (fun q => q = 98 ∨ q = 100 + 2 * k) own w own' w') (hk : gs.length ≤ k) (hv : rs[k]? = some v) (hX : Lx 5 mB own' (100 + 2 * k) w' v l) : Aq own0 w0 own' w' ra rs (fun j => if j = k then l else f j) ga gs G ka ks f2 na ns G2 :=
  ⟨h.s.trans (s.mono (fun q e => by unfold Iq; omega)), h.p.at s (by decide) (by decide) (by decide) hk hv hX, h.q.sn s (by omega) (by omega) (fun j => by omega)⟩
theorem Aq.at2 (h : Aq own0 w0 own w ra rs f ga gs G ka ks f2 na ns G2) (s : Sn (fun q => q = 98 ∨ q = 101 + 2 * k) own w own' w') (hk : ns.length ≤ k) (hv : ks[k]? = some v) (hX : Lx 3 mI own' (101 + 2 * k) w' v l) : Aq own0 w0 own' w' ra rs f ga gs G ka ks (fun j => if j = k then l else f2 j) na ns G2 :=
  ⟨h.s.trans (s.mono (fun q e => by unfold Iq; omega)), h.p.sn s (by omega) (by omega) (fun j => by omega), h.q.at s (by decide) (by decide) (by decide) hk hv hX⟩
theorem Aq.more1 (h : Aq own0 w0 own w ra rs f ga gs G ka ks f2 na ns G2) {f' : Nat → List Int} (hf : ∀ k, k < rs.length → f k = f' k) : Aq own0 w0 own w ra rs f' ga gs G ka ks f2 na ns G2 := ⟨h.s, h.p.more hf, h.q⟩
theorem Aq.more2 (h : Aq own0 w0 own w ra rs f ga gs G ka ks f2 na ns G2) {f' : Nat → List Int} (hf : ∀ k, k < ks.length → f2 k = f' k) : Aq own0 w0 own w ra rs f ga gs G ka ks f' na ns G2 := ⟨h.s, h.p, h.q.more hf⟩
theorem Aq.push1 (h : Aq own0 w0 own w ra rs f ga gs G ka ks f2 na ns G2) (hX : Lx 5 mB own (100 + 2 * gs.length) w v (G gs.length)) (hv : v.oneCell' = true) (hn : gs.length ≤ 16777216) : ∃ (a : Option Addr) (cp : Nat) (w' : World) (own' : Nat → Nat), (∀ ty, (Builtin.append_ #[42, 42] ty #[ga, .slice (some ⟨w.heap.size, 0, none⟩) 1 1]).run Tryd.prog (w.alloc (.cells #[v] 29)) = .ok (.slice a (gs.length + 1) cp) w') ∧ Aside (Aq own0 w0 own' w' ra rs f (.slice a (gs.length + 1) cp) (gs ++ [v]) G ka ks f2 na ns G2) := by
  obtain ⟨a, cp, w', own', run, P⟩ := h.p.gpushRun (st := 42) Tryd.underlying42 infoL (by decide) (by decide) hX hv hn
  exact ⟨a, cp, w', own', run, ⟨h.s.trans (P.it.2.mono (fun q e => by unfold Iq; omega)), P.it.1, h.q.sn P.it.2 (by decide) (by decide) (fun j => by omega)⟩⟩
theorem Aq.push2 (h : Aq own0 w0 own w ra rs f ga gs G ka ks f2 na ns G2) (hX : Lx 3 mI own (101 + 2 * ns.length) w v (G2 ns.length)) (hv : v.oneCell' = true) (hn : ns.length ≤ 16777216) : ∃ (a : Option Addr) (cp : Nat) (w' : World) (own' : Nat → Nat), (∀ ty, (Builtin.append_ #[43, 43] ty #[na, .slice (some ⟨w.heap.size, 0, none⟩) 1 1]).run Tryd.prog (w.alloc (.cells #[v] 47)) = .ok (.slice a (ns.length + 1) cp) w') ∧ Aside (Aq own0 w0 own' w' ra rs f ga gs G ka ks f2 (.slice a (ns.length + 1) cp) (ns ++ [v]) G2) := by
  obtain ⟨a, cp, w', own', run, P⟩ := h.q.gpushRun (st := 43) Tryd.underlying43 infoS (by decide) (by decide) hX hv hn
  exact ⟨a, cp, w', own', run, ⟨h.s.trans (P.it.2.mono (fun q e => by unfold Iq; omega)), h.p.sn P.it.2 (by decide) (by decide) (fun j => by omega), P.it.1⟩⟩
end
end Go.Proofs.YtambdgcogldbgaaDoor

/-
  culvertlaw24.apart (written by gen_TmB.py)
-/
namespace Go.Proofs.YtambdgcogldbgaaDoor
open Go.RowKit
attribute [-go_sem] Builtin.append_

def natQ : Value → Nat | .int _ q => q.toNat | _ => 0
abbrev valB (k : Nat) : Int := (k : Int) % 256
abbrev valI (k : Nat) : Int := 5000 + (k : Int)
theorem wrap_5000 {c : Int} {k : Nat} (hc : -2000000 ≤ c ∧ c ≤ 2000000) (hk : k ≤ 8388608) : IntKind.i64.wrap (c + (k : Int)) = c + (k : Int) := by rw [IntKind.wrap_i64]; omega
theorem Fam.anyG {t ts : TypeId} {m : Int → Value} {b c g : Nat} {own : Nat → Nat} {W : World} {av gv : Value} {vs : List Value} {f G G' : Nat → List Int} (h : Fam t ts m b c g own W av vs f gv [] G) : Fam t ts m b c g own W av vs f gv [] G' := ⟨h.all, h.xs, h.gr, fun k v e => by simp at e⟩
set_option maxRecDepth 20000 in
set_option maxHeartbeats 16000000 in
theorem apart24 {own0 : Nat → Nat} {w0 : World} {ra ka : Value} {rs ks : List Value} {G1 G2 : Nat → List Int} (f f2 : Nat → List Int) (hp : Fam 5 29 mB 5 100 97 own0 w0 ra rs f (.slice none 0 0) [] G1) (hq : Fam 3 47 mI 6 101 96 own0 w0 ka ks f2 (.slice none 0 0) [] G2) (hn : rs.length ≤ 8388608) (hn2 : ks.length ≤ 8388608) (hl : ∀ k, k < rs.length → (f k).length ≤ 4398046511104) (hl2 : ∀ k, k < ks.length → (f2 k).length ≤ 4398046511104) :
    Calls Tryd.prog 17 #[ra, ka] w0 fun e w' => e = .returned (.bool true) ∧ ∃ own', Aside (Sn Iq own0 w0 own' w') := by
  obtain ⟨Gg, hG⟩ : ∃ Gg : Nat → List Int, ∀ k, Gg k = List.replicate (f k).length (valB k) ++ [((k : Int) + 1) % 256] := ⟨_, fun _ => rfl⟩
  obtain ⟨Gn, hG2⟩ : ∃ Gn : Nat → List Int, ∀ k, Gn k = List.replicate (f2 k).length (valI k) ++ [6000 + (k : Int)] := ⟨_, fun _ => rfl⟩
  have HG1 := Aside.mk hG
  have HG2 := Aside.mk hG2
  have P : Aside (Aq own0 w0 own0 w0 ra rs f (.slice none 0 0) [] Gg ka ks f2 (.slice none 0 0) [] Gn) := ⟨⟨Sn.refl _ _ _, hp.anyG, hq.anyG⟩⟩
  obtain ⟨a, c, rfl⟩ := slice_len hp.all.1
  obtain ⟨a2, c2, rfl⟩ := slice_len hq.all.1
  obtain ⟨j, hj⟩ : ∃ j, rs.length = j := ⟨_, rfl⟩
  obtain ⟨j2, hj2⟩ : ∃ j2, ks.length = j2 := ⟨_, rfl⟩
  rw [hj] at hn hl P ⊢
  rw [hj2] at hn2 hl2 P ⊢
  have HJ := Aside.mk hj
  have HL := Aside.mk hl
  have HJ2 := Aside.mk hj2
  have HL2 := Aside.mk hl2
  have hjM : (j : Int) ≤ 8388608 := by omega
  have hjM2 : (j2 : Int) ≤ 8388608 := by omega
  clear hp hq hn hl hj hn2 hl2 hj2 hG hG2
  go_enter Tryd.func17, Tryd.ntmps17
  go_upto_block 0 with fail
  go_cut [] (fun wx => ∃ own, Aside (Aq own0 w0 own wx (.slice a j c) rs (fun k => List.replicate (f k).length (valB k)) (.slice none 0 0) [] Gg (.slice a2 j2 c2) ks f2 (.slice none 0 0) [] Gn))
  case first =>
    go_wp2_with fail
    go_loopw [29] (fun iv wr => ∃ (i : Nat) (own : Nat → Nat), iv = .int .i64 i ∧ i ≤ j ∧ Aside (Aq own0 w0 own wr (.slice a j c) rs (fL valB f i 0) (.slice none 0 0) [] Gg (.slice a2 j2 c2) ks f2 (.slice none 0 0) [] Gn)) (fun iv _ => j - natQ iv)
    case atStart => exact ⟨0, _, rfl, Nat.zero_le _, ⟨P.it.more1 (fun k _ => (fL_start f k).symm)⟩⟩
    case round =>
      clear P
      obtain ⟨i, own, rfl, hi, P⟩ := hrel
      rcases Nat.eq_or_lt_of_le hi with e | hilt
      · subst e
        have P1 : Aside (Aq own0 w0 own wr (.slice a i c) rs (fun k => List.replicate (f k).length (valB k)) (.slice none 0 0) [] Gg (.slice a2 j2 c2) ks f2 (.slice none 0 0) [] Gn) := ⟨P.it.more1 (fun k hk => fL_end f (by rw [HJ.it] at hk; exact hk))⟩
        clear P
        go_wp2_with fail
        go_meet
        exact ⟨own, P1⟩
      · obtain ⟨v, hv⟩ : ∃ v, rs[i]? = some v := ⟨_, List.getElem?_eq_getElem (by rw [HJ.it]; exact hilt)⟩
        have Pall := P.it.p.all
        rw [← HJ.it] at Pall
        obtain ⟨ab, ac, ea, hac, cv⟩ := rowL_cell Pall hv
        injection ea with ea1 ea2 ea3
        subst ea1 ea3
        obtain ⟨va, vc, ev, hvc⟩ := (P.it.p.xs i v hv).shape
        have ni : (fL valB f i 0 i).length = (f i).length := fL_len f (Nat.zero_le _)
        rw [ni] at ev hvc
        obtain ⟨N, hN⟩ : ∃ N, (f i).length = N := ⟨_, rfl⟩
        rw [hN] at ev hvc
        have HN := Aside.mk hN
        subst ev
        have HV := Aside.mk hv
        have hNb : (N : Int) ≤ 4398046511104 := by have := HL.it i hilt; omega
        have hjc : (j : Int) ≤ c := by have := HJ.it; omega
        have hiM : (i : Int) ≤ 8388608 := by omega
        have hu := wrap_5000 (c := 5000) (k := i) (by omega) (by omega)
        clear hv ni hN ea2 hac Pall
        go_upto_region 5 with fail
        clear cv
        go_loopw [36] (fun qv wr => ∃ (q : Nat) (own : Nat → Nat), qv = .int .i64 q ∧ q ≤ N ∧ Aside (Aq own0 w0 own wr (.slice (some ⟨ab, 0, none⟩) j c) rs (fL valB f i q) (.slice none 0 0) [] Gg (.slice a2 j2 c2) ks f2 (.slice none 0 0) [] Gn)) (fun qv _ => N - natQ qv)
        case atStart => exact ⟨0, own, rfl, Nat.zero_le _, P⟩
        case round =>
          clear P
          obtain ⟨q, own, rfl, hq, P⟩ := hrel
          rcases Nat.eq_or_lt_of_le hq with e | hqlt
          · subst e
            have P2 : Aside (Aq own0 w0 own wr (.slice (some ⟨ab, 0, none⟩) j c) rs (fL valB f (i + 1) 0) (.slice none 0 0) [] Gg (.slice a2 j2 c2) ks f2 (.slice none 0 0) [] Gn) := ⟨P.it.more1 (fun k _ => by rw [← HN.it]; exact fL_all f i k)⟩
            clear P
            go_wp2_with fail
            go_roundw
            case rel => exact ⟨i + 1, own, by go_num, by omega, P2⟩
            case measure => simp [natQ]; omega
          · have X := P.it.p.xs i _ HV.it
            rw [fL_at] at X
            have pl : (partL (valB i) q (f i)).length = N := by rw [partL_len (by rw [HN.it]; exact hq)]; exact HN.it
            obtain ⟨b, c', u0, e1, fz, ce, X2, S2⟩ := X.put (i := q) (by rw [pl]; exact hqlt) (valB i)
            rw [pl] at e1
            injection e1 with e1 _ e2
            subst e1 e2
            rw [partL_step (by rw [HN.it]; exact hqlt)] at X2
            have P2 : Aside (Aq own0 w0 own (wr.setCell ⟨b, q, none⟩ (.int .u8 ((i : Int) % 256))) (.slice (some ⟨ab, 0, none⟩) j c) rs (fL valB f i (q + 1)) (.slice none 0 0) [] Gg (.slice a2 j2 c2) ks f2 (.slice none 0 0) [] Gn) := ⟨(P.it.at1 S2 (Nat.zero_le _) HV.it X2).more1 (fun k _ => fL_step f i q k)⟩
            clear X X2 S2 pl P
            go_wp2_with fail
            go_roundw
            case rel => exact ⟨q + 1, own, by go_num, by omega, P2⟩
            case measure => simp [natQ]; omega
  case rest =>
    clear P
    obtain ⟨own, P⟩ := hcut
    go_upto_block 4 with fail
    go_cut [] (fun wx => ∃ own, Aside (Aq own0 w0 own wx (.slice a j c) rs (fun k => List.replicate (f k).length (valB k)) (.slice none 0 0) [] Gg (.slice a2 j2 c2) ks (fun k => List.replicate (f2 k).length (valI k)) (.slice none 0 0) [] Gn))
    case first =>
      go_wp2_with fail
      go_loopw [48] (fun iv wr => ∃ (i : Nat) (own : Nat → Nat), iv = .int .i64 i ∧ i ≤ j2 ∧ Aside (Aq own0 w0 own wr (.slice a j c) rs (fun k => List.replicate (f k).length (valB k)) (.slice none 0 0) [] Gg (.slice a2 j2 c2) ks (fL valI f2 i 0) (.slice none 0 0) [] Gn)) (fun iv _ => j2 - natQ iv)
      case atStart => exact ⟨0, _, rfl, Nat.zero_le _, ⟨P.it.more2 (fun k _ => (fL_start f2 k).symm)⟩⟩
      case round =>
        clear P
        obtain ⟨i, own, rfl, hi, P⟩ := hrel
        rcases Nat.eq_or_lt_of_le hi with e | hilt
        · subst e
          have P1 : Aside (Aq own0 w0 own wr (.slice a j c) rs (fun k => List.replicate (f k).length (valB k)) (.slice none 0 0) [] Gg (.slice a2 i c2) ks (fun k => List.replicate (f2 k).length (valI k)) (.slice none 0 0) [] Gn) := ⟨P.it.more2 (fun k hk => fL_end f2 (by rw [HJ2.it] at hk; exact hk))⟩
          clear P
          go_wp2_with fail
          go_meet
          exact ⟨own, P1⟩
        · obtain ⟨v, hv⟩ : ∃ v, ks[i]? = some v := ⟨_, List.getElem?_eq_getElem (by rw [HJ2.it]; exact hilt)⟩
          have Pall := P.it.q.all
          rw [← HJ2.it] at Pall
          obtain ⟨ab, ac, ea, hac, cv⟩ := rowL_cell Pall hv
          injection ea with ea1 ea2 ea3
          subst ea1 ea3
          obtain ⟨va, vc, ev, hvc⟩ := (P.it.q.xs i v hv).shape
          have ni : (fL valI f2 i 0 i).length = (f2 i).length := fL_len f2 (Nat.zero_le _)
          rw [ni] at ev hvc
          obtain ⟨N, hN⟩ : ∃ N, (f2 i).length = N := ⟨_, rfl⟩
          rw [hN] at ev hvc
          have HN := Aside.mk hN
          subst ev
          have HV := Aside.mk hv
          have hNb : (N : Int) ≤ 4398046511104 := by have := HL2.it i hilt; omega
          have hjc : (j2 : Int) ≤ c2 := by have := HJ2.it; omega
          have hiM : (i : Int) ≤ 8388608 := by omega
          have hu := wrap_5000 (c := 5000) (k := i) (by omega) (by omega)
          clear hv ni hN ea2 hac Pall
          go_upto_region 14 with fail
          clear cv
          go_loopw [55] (fun qv wr => ∃ (q : Nat) (own : Nat → Nat), qv = .int .i64 q ∧ q ≤ N ∧ Aside (Aq own0 w0 own wr (.slice a j c) rs (fun k => List.replicate (f k).length (valB k)) (.slice none 0 0) [] Gg (.slice (some ⟨ab, 0, none⟩) j2 c2) ks (fL valI f2 i q) (.slice none 0 0) [] Gn)) (fun qv _ => N - natQ qv)
          case atStart => exact ⟨0, own, rfl, Nat.zero_le _, P⟩
          case round =>
            clear P
            obtain ⟨q, own, rfl, hq, P⟩ := hrel
            rcases Nat.eq_or_lt_of_le hq with e | hqlt
            · subst e
              have P2 : Aside (Aq own0 w0 own wr (.slice a j c) rs (fun k => List.replicate (f k).length (valB k)) (.slice none 0 0) [] Gg (.slice (some ⟨ab, 0, none⟩) j2 c2) ks (fL valI f2 (i + 1) 0) (.slice none 0 0) [] Gn) := ⟨P.it.more2 (fun k _ => by rw [← HN.it]; exact fL_all f2 i k)⟩
              clear P
              go_wp2_with fail
              go_roundw
              case rel => exact ⟨i + 1, own, by go_num, by omega, P2⟩
              case measure => simp [natQ]; omega
            · have X := P.it.q.xs i _ HV.it
              rw [fL_at] at X
              have pl : (partL (valI i) q (f2 i)).length = N := by rw [partL_len (by rw [HN.it]; exact hq)]; exact HN.it
              obtain ⟨b, c', u0, e1, fz, ce, X2, S2⟩ := X.put (i := q) (by rw [pl]; exact hqlt) (valI i)
              rw [pl] at e1
              injection e1 with e1 _ e2
              subst e1 e2
              rw [partL_step (by rw [HN.it]; exact hqlt)] at X2
              have P2 : Aside (Aq own0 w0 own (wr.setCell ⟨b, q, none⟩ (.int .i64 (5000 + (i : Int)))) (.slice a j c) rs (fun k => List.replicate (f k).length (valB k)) (.slice none 0 0) [] Gg (.slice (some ⟨ab, 0, none⟩) j2 c2) ks (fL valI f2 i (q + 1)) (.slice none 0 0) [] Gn) := ⟨(P.it.at2 S2 (Nat.zero_le _) HV.it X2).more2 (fun k _ => fL_step f2 i q k)⟩
              clear X X2 S2 pl P
              go_wp2_with fail
              go_roundw
              case rel => exact ⟨q + 1, own, by go_num, by omega, P2⟩
              case measure => simp [natQ]; omega
    case rest =>
      clear P
      obtain ⟨own, P⟩ := hcut
      go_upto_block 8 with fail
      go_cut [11] (fun gvv wx => ∃ (ys : List Value) (own : Nat → Nat) (gx : Option Addr) (gc : Nat), gvv = .slice gx j gc ∧ Aside (ys.length = j) ∧ Aside (Aq own0 w0 own wx (.slice a j c) rs (fun k => List.replicate (f k).length (valB k)) (.slice gx j gc) ys Gg (.slice a2 j2 c2) ks (fun k => List.replicate (f2 k).length (valI k)) (.slice none 0 0) [] Gn))
      case first =>
        go_wp2_with fail
        go_loopw [11, 67] (fun gvv iv wr => ∃ (i2 : Nat) (ys : List Value) (own : Nat → Nat) (gx : Option Addr) (gc : Nat), gvv = .slice gx i2 gc ∧ iv = .int .i64 i2 ∧ i2 ≤ j ∧ Aside (ys.length = i2) ∧ Aside (Aq own0 w0 own wr (.slice a j c) rs (fun k => List.replicate (f k).length (valB k)) (.slice gx i2 gc) ys Gg (.slice a2 j2 c2) ks (fun k => List.replicate (f2 k).length (valI k)) (.slice none 0 0) [] Gn)) (fun _ iv _ => j - natQ iv)
        case atStart => exact ⟨0, [], own, none, 0, rfl, rfl, Nat.zero_le _, ⟨rfl⟩, P⟩
        case round =>
          clear P
          obtain ⟨k, ys, own, gx, gc, rfl, rfl, hk, HY, P⟩ := hrel
          rcases Nat.eq_or_lt_of_le hk with e | hklt
          · subst e
            go_wp2_with fail
            go_meet
            exact ⟨ys, own, gx, gc, rfl, HY, P⟩
          · obtain ⟨v, hv⟩ : ∃ v, rs[k]? = some v := ⟨_, List.getElem?_eq_getElem (by rw [HJ.it]; exact hklt)⟩
            have Pall := P.it.p.all
            rw [← HJ.it] at Pall
            obtain ⟨ab, ac, ea, hac, cv⟩ := rowL_cell Pall hv
            injection ea with ea1 ea2 ea3
            subst ea1 ea3
            have X := P.it.p.xs k v hv
            obtain ⟨va, vc, ev, hvc⟩ := X.shape
            rw [List.length_replicate] at ev hvc
            obtain ⟨N, hN⟩ : ∃ N, (f k).length = N := ⟨_, rfl⟩
            rw [hN] at ev hvc X
            have HN := Aside.mk hN
            subst ev
            have HV := Aside.mk hv
            have hNb : (N : Int) ≤ 4398046511104 := by have := HL.it k hklt; omega
            have hjc : (j : Int) ≤ c := by have := HJ.it; omega
            have hu7 := wrap_5000 (c := 6000) (k := k) (by omega) (by omega)
            have hiM : (k : Int) ≤ 8388608 := by omega
            have G0 : Aside (Gq 5 mB 119 own wr (.slice va N vc) (List.replicate N (valB k)) (.slice va (N + 0) vc) 0) := ⟨by have := Grows.start X 98; rw [List.length_replicate] at this; unfold Gq; rw [List.length_replicate]; exact this⟩
            clear hv hN ea2 hac X Pall
            go_upto_region 25 with fail
            clear cv
            go_loopw [14, 15] (fun hx qv wr => ∃ (q : Nat) (own : Nat → Nat) (xb : Option Addr) (xd : Nat), hx = .slice xb (N + q) xd ∧ qv = .int .i64 q ∧ q ≤ 64 ∧ Aside (Gq 5 mB 119 own wr (.slice va N vc) (List.replicate N (valB k)) (.slice xb (N + q) xd) q) ∧ Aside (Aq own0 w0 own wr (.slice (some ⟨ab, 0, none⟩) j c) rs (fun k => List.replicate (f k).length (valB k)) (.slice gx k gc) ys Gg (.slice a2 j2 c2) ks (fun k => List.replicate (f2 k).length (valI k)) (.slice none 0 0) [] Gn)) (fun _ qv _ => 64 - natQ qv)
            case atStart => exact ⟨0, own, va, vc, rfl, rfl, by omega, G0, P⟩
            case round =>
              clear P G0
              obtain ⟨q, own, xb, xd, rfl, rfl, hq, Gx, P⟩ := hrel
              have X := P.it.p.xs k _ HV.it
              rw [HN.it] at X
              rcases Nat.eq_or_lt_of_le hq with h64 | h64
              · have h64' : ¬ (q : Int) < 64 := by omega
                obtain ⟨a5, c5, w5, own5, run5, X5, Y5, S5⟩ := Lx.appRun (st := 29) X (((k : Int) + 1) % 256) Tryd.underlying29 u8info rfl (fun _ => rfl) (by decide) (by rw [List.length_replicate]; omega)
                rw [List.length_replicate] at run5 Y5
                have P5 : Aside (Aq own0 w0 own5 w5 (.slice (some ⟨ab, 0, none⟩) j c) rs (fun k => List.replicate (f k).length (valB k)) (.slice gx k gc) ys Gg (.slice a2 j2 c2) ks (fun k => List.replicate (f2 k).length (valI k)) (.slice none 0 0) [] Gn) := ⟨(P.it.at1 S5.it (by rw [HY.it]; exact Nat.le_refl _) HV.it X5.it).more1 (fun j _ => by split; (rename_i e; subst e; rw [HN.it]); rfl)⟩
                obtain ⟨a6, c6, w6, own6, run6, P6⟩ := P5.it.push1 (v := .slice a5 (N + 1) c5) (by rw [HY.it]; rw [HG1.it, HN.it]; exact Y5.it) rfl (by rw [HY.it]; omega)
                rw [HY.it] at run6 P6
                have run5' : ∀ ty, (Builtin.append_ #[29, 29] ty #[.slice va N vc, .slice (some ⟨wr.heap.size, 0, none⟩) 1 1]).run Tryd.prog (wr.alloc (.cells #[(.int .u8 (((k : Int) + 1) % 256))] 5)) = .ok (.slice a5 (N + 1) c5) w5 := run5
                have HY6 : Aside ((ys ++ [Value.slice a5 (N + 1) c5]).length = k + 1) := ⟨by rw [List.length_append, HY.it]; rfl⟩
                clear X X5 Y5 S5 P5 run5 P Gx h64
                go_wp2_with fail
                go_roundw
                case rel => exact ⟨k + 1, ys ++ [.slice a5 (N + 1) c5], own6, a6, c6, rfl, by go_num, by omega, HY6, P6⟩
                case measure => simp [natQ]; omega
              · have h64' : (q : Int) < 64 := by omega
                obtain ⟨a5, c5, w5, own5, run5, X5, G5, S5⟩ := Gq.run (st := 29) Gx.it X Tryd.underlying29 u8info rfl (fun _ => rfl) (by decide) (by omega) (by rw [List.length_replicate]; omega) hq
                rw [List.length_replicate] at run5 G5
                have P5 : Aside (Aq own0 w0 own5 w5 (.slice (some ⟨ab, 0, none⟩) j c) rs (fun k => List.replicate (f k).length (valB k)) (.slice gx k gc) ys Gg (.slice a2 j2 c2) ks (fun k => List.replicate (f2 k).length (valI k)) (.slice none 0 0) [] Gn) := ⟨(P.it.at1 S5.it (by rw [HY.it]; exact Nat.le_refl _) HV.it X5.it).more1 (fun j _ => by split; (rename_i e; subst e; rw [HN.it]); rfl)⟩
                have run5' : ∀ ty, (Builtin.append_ #[29, 29] ty #[.slice xb (N + q) xd, .slice (some ⟨wr.heap.size, 0, none⟩) 1 1]).run Tryd.prog (wr.alloc (.cells #[(.int .u8 119)] 5)) = .ok (.slice a5 (N + (q + 1)) c5) w5 := run5
                clear X X5 S5 run5 P Gx h64
                go_wp2_with fail
                go_roundw
                case rel => exact ⟨q + 1, own5, a5, c5, rfl, by go_num, by omega, G5, P5⟩
                case measure => simp [natQ]; omega
      case rest =>
        clear P
        obtain ⟨gs, own, ga, gac, rfl, HY1, P⟩ := hcut
        go_upto_block 12 with fail
        go_cut [16] (fun gvv wx => ∃ (ys : List Value) (own : Nat → Nat) (gx : Option Addr) (gc : Nat), gvv = .slice gx j2 gc ∧ Aside (ys.length = j2) ∧ Aside (Aq own0 w0 own wx (.slice a j c) rs (fun k => List.replicate (f k).length (valB k)) (.slice ga j gac) gs Gg (.slice a2 j2 c2) ks (fun k => List.replicate (f2 k).length (valI k)) (.slice gx j2 gc) ys Gn))
        case first =>
          go_wp2_with fail
          go_loopw [16, 92] (fun gvv iv wr => ∃ (i2 : Nat) (ys : List Value) (own : Nat → Nat) (gx : Option Addr) (gc : Nat), gvv = .slice gx i2 gc ∧ iv = .int .i64 i2 ∧ i2 ≤ j2 ∧ Aside (ys.length = i2) ∧ Aside (Aq own0 w0 own wr (.slice a j c) rs (fun k => List.replicate (f k).length (valB k)) (.slice ga j gac) gs Gg (.slice a2 j2 c2) ks (fun k => List.replicate (f2 k).length (valI k)) (.slice gx i2 gc) ys Gn)) (fun _ iv _ => j2 - natQ iv)
          case atStart => exact ⟨0, [], own, none, 0, rfl, rfl, Nat.zero_le _, ⟨rfl⟩, P⟩
          case round =>
            clear P
            obtain ⟨k, ys, own, gx, gc, rfl, rfl, hk, HY, P⟩ := hrel
            rcases Nat.eq_or_lt_of_le hk with e | hklt
            · subst e
              go_wp2_with fail
              go_meet
              exact ⟨ys, own, gx, gc, rfl, HY, P⟩
            · obtain ⟨v, hv⟩ : ∃ v, ks[k]? = some v := ⟨_, List.getElem?_eq_getElem (by rw [HJ2.it]; exact hklt)⟩
              have Pall := P.it.q.all
              rw [← HJ2.it] at Pall
              obtain ⟨ab, ac, ea, hac, cv⟩ := rowL_cell Pall hv
              injection ea with ea1 ea2 ea3
              subst ea1 ea3
              have X := P.it.q.xs k v hv
              obtain ⟨va, vc, ev, hvc⟩ := X.shape
              rw [List.length_replicate] at ev hvc
              obtain ⟨N, hN⟩ : ∃ N, (f2 k).length = N := ⟨_, rfl⟩
              rw [hN] at ev hvc X
              have HN := Aside.mk hN
              subst ev
              have HV := Aside.mk hv
              have hNb : (N : Int) ≤ 4398046511104 := by have := HL2.it k hklt; omega
              have hjc : (j2 : Int) ≤ c2 := by have := HJ2.it; omega
              have hu7 := wrap_5000 (c := 6000) (k := k) (by omega) (by omega)
              have hiM : (k : Int) ≤ 8388608 := by omega
              have G0 : Aside (Gq 3 mI 4000 own wr (.slice va N vc) (List.replicate N (valI k)) (.slice va (N + 0) vc) 0) := ⟨by have := Grows.start X 98; rw [List.length_replicate] at this; unfold Gq; rw [List.length_replicate]; exact this⟩
              clear hv hN ea2 hac X Pall
              go_upto_region 36 with fail
              clear cv
              go_loopw [19, 20] (fun hx qv wr => ∃ (q : Nat) (own : Nat → Nat) (xb : Option Addr) (xd : Nat), hx = .slice xb (N + q) xd ∧ qv = .int .i64 q ∧ q ≤ 64 ∧ Aside (Gq 3 mI 4000 own wr (.slice va N vc) (List.replicate N (valI k)) (.slice xb (N + q) xd) q) ∧ Aside (Aq own0 w0 own wr (.slice a j c) rs (fun k => List.replicate (f k).length (valB k)) (.slice ga j gac) gs Gg (.slice (some ⟨ab, 0, none⟩) j2 c2) ks (fun k => List.replicate (f2 k).length (valI k)) (.slice gx k gc) ys Gn)) (fun _ qv _ => 64 - natQ qv)
              case atStart => exact ⟨0, own, va, vc, rfl, rfl, by omega, G0, P⟩
              case round =>
                clear P G0
                obtain ⟨q, own, xb, xd, rfl, rfl, hq, Gx, P⟩ := hrel
                have X := P.it.q.xs k _ HV.it
                rw [HN.it] at X
                rcases Nat.eq_or_lt_of_le hq with h64 | h64
                · have h64' : ¬ (q : Int) < 64 := by omega
                  obtain ⟨a5, c5, w5, own5, run5, X5, Y5, S5⟩ := Lx.appRun (st := 47) X (6000 + (k : Int)) Tryd.underlying47 intinfo rfl (fun _ => rfl) (by decide) (by rw [List.length_replicate]; omega)
                  rw [List.length_replicate] at run5 Y5
                  have P5 : Aside (Aq own0 w0 own5 w5 (.slice a j c) rs (fun k => List.replicate (f k).length (valB k)) (.slice ga j gac) gs Gg (.slice (some ⟨ab, 0, none⟩) j2 c2) ks (fun k => List.replicate (f2 k).length (valI k)) (.slice gx k gc) ys Gn) := ⟨(P.it.at2 S5.it (by rw [HY.it]; exact Nat.le_refl _) HV.it X5.it).more2 (fun j _ => by split; (rename_i e; subst e; rw [HN.it]); rfl)⟩
                  obtain ⟨a6, c6, w6, own6, run6, P6⟩ := P5.it.push2 (v := .slice a5 (N + 1) c5) (by rw [HY.it]; rw [HG2.it, HN.it]; exact Y5.it) rfl (by rw [HY.it]; omega)
                  rw [HY.it] at run6 P6
                  have run5' : ∀ ty, (Builtin.append_ #[47, 47] ty #[.slice va N vc, .slice (some ⟨wr.heap.size, 0, none⟩) 1 1]).run Tryd.prog (wr.alloc (.cells #[(.int .i64 (6000 + (k : Int)))] 3)) = .ok (.slice a5 (N + 1) c5) w5 := run5
                  have HY6 : Aside ((ys ++ [Value.slice a5 (N + 1) c5]).length = k + 1) := ⟨by rw [List.length_append, HY.it]; rfl⟩
                  clear X X5 Y5 S5 P5 run5 P Gx h64
                  go_wp2_with fail
                  go_roundw
                  case rel => exact ⟨k + 1, ys ++ [.slice a5 (N + 1) c5], own6, a6, c6, rfl, by go_num, by omega, HY6, P6⟩
                  case measure => simp [natQ]; omega
                · have h64' : (q : Int) < 64 := by omega
                  obtain ⟨a5, c5, w5, own5, run5, X5, G5, S5⟩ := Gq.run (st := 47) Gx.it X Tryd.underlying47 intinfo rfl (fun _ => rfl) (by decide) (by omega) (by rw [List.length_replicate]; omega) hq
                  rw [List.length_replicate] at run5 G5
                  have P5 : Aside (Aq own0 w0 own5 w5 (.slice a j c) rs (fun k => List.replicate (f k).length (valB k)) (.slice ga j gac) gs Gg (.slice (some ⟨ab, 0, none⟩) j2 c2) ks (fun k => List.replicate (f2 k).length (valI k)) (.slice gx k gc) ys Gn) := ⟨(P.it.at2 S5.it (by rw [HY.it]; exact Nat.le_refl _) HV.it X5.it).more2 (fun j _ => by split; (rename_i e; subst e; rw [HN.it]); rfl)⟩
                  have run5' : ∀ ty, (Builtin.append_ #[47, 47] ty #[.slice xb (N + q) xd, .slice (some ⟨wr.heap.size, 0, none⟩) 1 1]).run Tryd.prog (wr.alloc (.cells #[(.int .i64 4000)] 3)) = .ok (.slice a5 (N + (q + 1)) c5) w5 := run5
                  clear X X5 S5 run5 P Gx h64
                  go_wp2_with fail
                  go_roundw
                  case rel => exact ⟨q + 1, own5, a5, c5, rfl, by go_num, by omega, G5, P5⟩
                  case measure => simp [natQ]; omega
        case rest =>
          clear P
          obtain ⟨ns, own, na, nac, rfl, HY2, P⟩ := hcut
          go_upto_block 16 with fail
          go_cut [] (fun wx => ∃ own, Aside (Aq own0 w0 own wx (.slice a j c) rs (fun k => List.replicate (f k).length (valB k)) (.slice ga j gac) gs Gg (.slice a2 j2 c2) ks (fun k => List.replicate (f2 k).length (valI k)) (.slice na j2 nac) ns Gn))
          case first =>
            go_wp2_with fail
            go_loopw [116] (fun iv wr2 => ∃ (i2 : Nat), iv = .int .i64 i2 ∧ i2 ≤ j ∧ wr2 = wc) (fun iv _ => j - natQ iv)
            case atStart => exact ⟨0, rfl, Nat.zero_le _, rfl⟩
            case round =>
              obtain ⟨i2, rfl, hi2, rfl⟩ := hrel
              rcases Nat.eq_or_lt_of_le hi2 with e | hi2lt
              · subst e
                go_wp2_with fail
                go_meet
                exact ⟨own, P⟩
              · obtain ⟨v, hv⟩ : ∃ v, rs[i2]? = some v := ⟨_, List.getElem?_eq_getElem (by rw [HJ.it]; exact hi2lt)⟩
                have Pall := P.it.p.all
                rw [← HJ.it] at Pall
                obtain ⟨ab, ac, ea, hac, cv⟩ := rowL_cell Pall hv
                injection ea with ea1 ea2 ea3
                subst ea1 ea3
                have X := P.it.p.xs i2 v hv
                obtain ⟨va, vc, ev, hvc⟩ := X.shape
                rw [List.length_replicate] at ev hvc
                obtain ⟨N, hN⟩ : ∃ N, (f i2).length = N := ⟨_, rfl⟩
                rw [hN] at ev hvc X
                subst ev
                have XX := Aside.mk X
                obtain ⟨y, hy⟩ : ∃ y, gs[i2]? = some y := ⟨_, List.getElem?_eq_getElem (by rw [HY1.it]; exact hi2lt)⟩
                have Pgr := P.it.p.gr
                rw [← HY1.it] at Pgr
                obtain ⟨gb, gc', eg, hgc, cy⟩ := rowL_cell Pgr hy
                injection eg with eg1 eg2 eg3
                subst eg1 eg3
                have Y := P.it.p.gs i2 y hy
                rw [HG1.it, hN] at Y
                obtain ⟨yb, yc, ey, yy⟩ := Y.cell (j := N) (y := ((i2 : Int) + 1) % 256) (by rw [List.getElem?_append_right (by rw [List.length_replicate]; exact Nat.le_refl _), List.length_replicate, Nat.sub_self]; rfl)
                rw [List.length_append, List.length_replicate] at ey
                subst ey
                have hNb : (N : Int) ≤ 4398046511104 := by have := HL.it i2 (by omega); omega
                have hjc : (j : Int) ≤ c := by have := HJ.it; omega
                have hgc' : (j : Int) ≤ gac := by have := HY1.it; omega
                have hu := wrap_5000 (c := 5000) (k := i2) (by omega) (by omega)
                have hu7 := wrap_5000 (c := 6000) (k := i2) (by omega) (by omega)
                have hiM : (i2 : Int) ≤ 8388608 := by omega
                have e77 : (((((i2 : Int) + 1) % 256)) != ((((i2 : Int) + 1) % 256))) = false := by simp
                have yy' : wr.cell? ⟨yb, N, none⟩ = some (.int .u8 (((i2 : Int) + 1) % 256)) := yy
                clear hv hN ea2 hac hy eg2 hgc X Y yy Pall Pgr
                go_upto_region 45 with fail
                go_loopw [123] (fun qv wr3 => ∃ (q : Nat), qv = .int .i64 q ∧ q ≤ N ∧ wr3 = wr) (fun qv _ => N - natQ qv)
                case atStart => exact ⟨0, rfl, Nat.zero_le _, rfl⟩
                case round =>
                  obtain ⟨q, rfl, hq, rfl⟩ := hrel
                  rcases Nat.eq_or_lt_of_le hq with e | hqlt
                  · subst e
                    go_wp2_with fail
                    go_roundw
                    case rel => exact ⟨i2 + 1, by go_num, by omega, by trivial⟩
                    case measure => simp [natQ]; omega
                  · obtain ⟨xb, xc, ex, xx⟩ := XX.it.cell (rep_at (z := valB i2) hqlt)
                    rw [List.length_replicate] at ex
                    injection ex with ex1 ex2 ex3
                    subst ex1 ex3
                    clear ex2
                    have e99 : (((i2 : Int) % 256) != ((i2 : Int) % 256)) = false := by simp
                    have xx' : wr.cell? ⟨xb, q, none⟩ = some (.int .u8 ((i2 : Int) % 256)) := xx
                    clear xx
                    go_wp2_with fail
                    go_roundw
                    case rel => exact ⟨q + 1, by go_num, by omega, by trivial⟩
                    case measure => simp [natQ]; omega
          case rest =>
            clear P
            obtain ⟨own, P⟩ := hcut
            go_upto_block 20 with fail
            go_cut [] (fun wx => ∃ own, Aside (Aq own0 w0 own wx (.slice a j c) rs (fun k => List.replicate (f k).length (valB k)) (.slice ga j gac) gs Gg (.slice a2 j2 c2) ks (fun k => List.replicate (f2 k).length (valI k)) (.slice na j2 nac) ns Gn))
            case first =>
              go_wp2_with fail
              go_loopw [149] (fun iv wr2 => ∃ (i2 : Nat), iv = .int .i64 i2 ∧ i2 ≤ j2 ∧ wr2 = wc) (fun iv _ => j2 - natQ iv)
              case atStart => exact ⟨0, rfl, Nat.zero_le _, rfl⟩
              case round =>
                obtain ⟨i2, rfl, hi2, rfl⟩ := hrel
                rcases Nat.eq_or_lt_of_le hi2 with e | hi2lt
                · subst e
                  go_wp2_with fail
                  go_meet
                  exact ⟨own, P⟩
                · obtain ⟨v, hv⟩ : ∃ v, ks[i2]? = some v := ⟨_, List.getElem?_eq_getElem (by rw [HJ2.it]; exact hi2lt)⟩
                  have Pall := P.it.q.all
                  rw [← HJ2.it] at Pall
                  obtain ⟨ab, ac, ea, hac, cv⟩ := rowL_cell Pall hv
                  injection ea with ea1 ea2 ea3
                  subst ea1 ea3
                  have X := P.it.q.xs i2 v hv
                  obtain ⟨va, vc, ev, hvc⟩ := X.shape
                  rw [List.length_replicate] at ev hvc
                  obtain ⟨N, hN⟩ : ∃ N, (f2 i2).length = N := ⟨_, rfl⟩
                  rw [hN] at ev hvc X
                  subst ev
                  have XX := Aside.mk X
                  obtain ⟨y, hy⟩ : ∃ y, ns[i2]? = some y := ⟨_, List.getElem?_eq_getElem (by rw [HY2.it]; exact hi2lt)⟩
                  have Pgr := P.it.q.gr
                  rw [← HY2.it] at Pgr
                  obtain ⟨gb, gc', eg, hgc, cy⟩ := rowL_cell Pgr hy
                  injection eg with eg1 eg2 eg3
                  subst eg1 eg3
                  have Y := P.it.q.gs i2 y hy
                  rw [HG2.it, hN] at Y
                  obtain ⟨yb, yc, ey, yy⟩ := Y.cell (j := N) (y := 6000 + (i2 : Int)) (by rw [List.getElem?_append_right (by rw [List.length_replicate]; exact Nat.le_refl _), List.length_replicate, Nat.sub_self]; rfl)
                  rw [List.length_append, List.length_replicate] at ey
                  subst ey
                  have hNb : (N : Int) ≤ 4398046511104 := by have := HL2.it i2 (by omega); omega
                  have hjc : (j2 : Int) ≤ c2 := by have := HJ2.it; omega
                  have hgc' : (j2 : Int) ≤ nac := by have := HY2.it; omega
                  have hu := wrap_5000 (c := 5000) (k := i2) (by omega) (by omega)
                  have hu7 := wrap_5000 (c := 6000) (k := i2) (by omega) (by omega)
                  have hiM : (i2 : Int) ≤ 8388608 := by omega
                  have e77 : ((6000 + (i2 : Int)) != (6000 + (i2 : Int))) = false := by simp
                  have yy' : wr.cell? ⟨yb, N, none⟩ = some (.int .i64 (6000 + (i2 : Int))) := yy
                  clear hv hN ea2 hac hy eg2 hgc X Y yy Pall Pgr
                  go_upto_region 57 with fail
                  go_loopw [156] (fun qv wr3 => ∃ (q : Nat), qv = .int .i64 q ∧ q ≤ N ∧ wr3 = wr) (fun qv _ => N - natQ qv)
                  case atStart => exact ⟨0, rfl, Nat.zero_le _, rfl⟩
                  case round =>
                    obtain ⟨q, rfl, hq, rfl⟩ := hrel
                    rcases Nat.eq_or_lt_of_le hq with e | hqlt
                    · subst e
                      go_wp2_with fail
                      go_roundw
                      case rel => exact ⟨i2 + 1, by go_num, by omega, by trivial⟩
                      case measure => simp [natQ]; omega
                    · obtain ⟨xb, xc, ex, xx⟩ := XX.it.cell (rep_at (z := valI i2) hqlt)
                      rw [List.length_replicate] at ex
                      injection ex with ex1 ex2 ex3
                      subst ex1 ex3
                      clear ex2
                      have e99 : ((5000 + (i2 : Int)) != (5000 + (i2 : Int))) = false := by simp
                      have xx' : wr.cell? ⟨xb, q, none⟩ = some (.int .i64 (5000 + (i2 : Int))) := xx
                      clear xx
                      go_wp2_with fail
                      go_roundw
                      case rel => exact ⟨q + 1, by go_num, by omega, by trivial⟩
                      case measure => simp [natQ]; omega
            case rest =>
              clear P
              obtain ⟨own, P⟩ := hcut
              go_wp2_with fail
              go_ret
              exact ⟨rfl, own, ⟨P.it.s⟩⟩
end Go.Proofs.YtambdgcogldbgaaDoor

/-
  culvertlaw24.TraceMemory: its worlds
-/
namespace Go.Proofs.YtambdgcogldbgaaDoor
open Go.RowKit Go.Maps

section
variable {A : Nat → Addr} {w w' w0 W w1 w2 : World} {own own' : Nat → Nat} {v vn hv bw sl wv ra ka rv : Value} {U Un : Ds} {I : Nat → Prop} {k z : Int} {T T' p : Nat} {ms ns xs : List Int} {L L' : Hs} {X : Bx} {rs ks : List Value} {f : Nat → List Int} {kd ky n : Int} {nx : Bool}
theorem Tz.put2 {ob mb : Nat} {oc mc : List Value} {t2 t3 : TypeId} (h : Tz A w0 own W hv T L v U [(ob, t2, oc), (mb, t3, mc)]) (h2 : mb ≠ ob) (x : Value) : Tz A w0 own (W.setCell ⟨mb, 0, none⟩ x) hv T L v U [(ob, t2, oc), (mb, t3, mc.set 0 x)] ∧ Sn (fun k => k = 8) own W own (W.setCell ⟨mb, 0, none⟩ x) := by
  have hb := h.x (mb, t3, mc) (by simp)
  have s8 : Sn (fun k => k = 8) own W own (W.setCell ⟨mb, 0, none⟩ x) := ⟨fun _ _ => rfl, (Keeps.refl _ _).setCell _ _ (fun _ => hb.2)⟩
  refine ⟨⟨h.g.sn s8 (by decide), h.h.sn s8 (by decide), h.d.sn s8 (by decide), fun e he => ?_⟩, s8⟩
  simp only [List.mem_cons, List.not_mem_nil, or_false] at he
  rcases he with rfl | rfl
  · have := h.x (ob, t2, oc) (by simp)
    exact ⟨this.1.setOther ⟨mb, 0, none⟩ x (by simpa using fun e => h2 e.symm), this.2⟩
  · exact ⟨hb.1.setCell 0 x, hb.2⟩
/-- the bytes that a call gives: the script's own, or a row of 4's -/
def Bs (own : Nat → Nat) (w0 W : World) (bw : Value) (ms : List Int) : Prop := Rd w0 bw ms ∨ RdO own 4 W bw ms
theorem Bs.sn (h : Bs own w0 W bw ms) (s : Sn I own W own' w') (h4 : ¬ I 4) : Bs own' w0 w' bw ms := h.imp id (fun x => x.sn s h4)
theorem Bs.rd (h : Bs own w0 W bw ms) (g : OnG A w0 own W) : Rd W bw ms := by
  rcases h with h | h
  · exact h.later g.g.bel
  · exact h.1
structure Tb (A : Nat → Addr) (w0 : World) (own : Nat → Nat) (W : World) (hv : Value) (T : Nat) (L : Hs) (v : Value) (U : Ds) (X : Bx) (bw : Value) (ms : List Int) : Prop where
  z : Tz A w0 own W hv T L v U X
  b : Bs own w0 W bw ms
theorem Tb.rd (h : Tb A w0 own W hv T L v U X bw ms) : Rd W bw ms := h.b.rd h.z.g
theorem Tz.row (h : Tz A w0 own W hv T L v U X) {v2 : Value} {ms2 : List Int} (hk : Keeps Nowhere W w') (ho : OwnB W.heap.size w' v2 ms2) : Tb A w0 (give own W.heap.size 4) w' hv T L v U X v2 ms2 :=
  ⟨h.sn (I := fun _ => False) (Sn.quiet hk 4) (fun x => x) (fun x => x) (fun x => x) (fun x => x), .inr ⟨OwnB.rd ho, fun g hg => ⟨owns_lt ho g hg, give_new (owns_base ho g hg)⟩⟩⟩
theorem tb_rest (h : Aside (Tz A w0 own W hv T L v U X)) (hm : mdl U = L) (hl : U.length ≤ 1073741824) (hT : T ≤ 70368744177664) (z : Int) :
    Calls Tryd.prog 7 #[.agg #[v], .int .i64 z] W fun e w' => ∃ q l c own', e = .returned (.slice q l c) ∧ Aside (Tb A w0 own' w' hv T L v U X (.slice q l c) (got L z).rest) := by
  refine (dRest h.it.d (by omega) (by rw [hm]; exact h.it.h.ok) hT z).mono ?_
  rintro e w' ⟨q, c, rfl, R, K⟩
  rw [hm] at R ⊢
  exact ⟨q, _, c, _, rfl, ⟨h.it.row K.it R.it⟩⟩
theorem tb_bytes {rs : List Int} {rv : Value} (h : Aside (Tb A w0 own W hv T L v U X rv rs)) (hr : Rd w0 sl ns) (b1 : ns.length ≤ 70368744177664) (b2 : rs.length ≤ 70368744177664) :
    Calls Tryd.prog 6 #[.agg #[.int .i64 kd, .int .i64 ky, .int .i64 n, .bool nx, sl], rv] W fun e w' => ∃ q l c own', e = .returned (.slice q l c) ∧ Aside (Tb A w0 own' w' hv T L v U X (.slice q l c) (givB nx n ns rs)) := by
  refine (bytes_at (hr.later h.it.z.g.g.bel) h.it.rd b1 b2).mono ?_
  rintro e w' ⟨q, c, rfl, R, K⟩
  exact ⟨q, _, c, _, rfl, ⟨h.it.z.row K.it R.it⟩⟩
/-- and the row that is handed in (7) -/
structure Tq (A : Nat → Addr) (w0 : World) (own : Nat → Nat) (W : World) (hv : Value) (T : Nat) (L : Hs) (v : Value) (U : Ds) (X : Bx) (bw : Value) (ms : List Int) (wv : Value) (xs : List Int) : Prop where
  z : Tz A w0 own W hv T L v U X
  b : Bs own w0 W bw ms
  w : Lx 5 mB own 7 W wv xs
theorem Tq.sn (h : Tq A w0 own W hv T L v U X bw ms wv xs) (s : Sn I own W own' w') (h0 : ¬ I 0) (h1 : ¬ I 1) (h4 : ¬ I 4) (h7 : ¬ I 7) (h8 : ¬ I 8) (h9 : ¬ I 9) : Tq A w0 own' w' hv T L v U X bw ms wv xs := ⟨h.z.sn s h0 h1 h8 h9, h.b.sn s h4, h.w.sn s h7⟩
theorem Tq.quiet (h : Tq A w0 own W hv T L v U X bw ms wv xs) (hk : Keeps Nowhere W w') : Tq A w0 own w' hv T L v U X bw ms wv xs := h.sn (I := fun _ => False) (Sn.same hk) (fun x => x) (fun x => x) (fun x => x) (fun x => x) (fun x => x) (fun x => x)
theorem Tq.rd (h : Tq A w0 own W hv T L v U X bw ms wv xs) : Rd W bw ms := h.b.rd h.z.g
/-- the whole is made -/
theorem Tb.whole (h : Tb A w0 own W hv T L v U X bw ms) (N : Ny W w' wv xs) : Tq A w0 (give own W.heap.size 7) w' hv T L v U X bw ms wv xs :=
  ⟨h.z.sn (I := fun _ => False) (Sn.quiet N.k 7) (fun x => x) (fun x => x) (fun x => x) (fun x => x), h.b.sn (I := fun _ => False) (Sn.quiet N.k 7) (fun x => x), ⟨owns_any N.row, fun b hb => ⟨give_new (owns_base N.row b hb), owns_lt N.row b hb⟩⟩⟩
/-- the document's next rows, kept in m's box -/
theorem Tq.next {ob mb : Nat} {oc mc : List Value} {t2 t3 : TypeId} (h : Tq A w0 own W hv T L v U [(ob, t2, oc), (mb, t3, mc)] bw ms wv xs) (h2 : mb ≠ ob) (hk : Keeps Nowhere W w') {v2 : Value} {U2 : Ds} (hd : RdD (give own W.heap.size 9) w' v2 U2) : Tq A w0 (give own W.heap.size 9) (w'.setCell ⟨mb, 0, none⟩ v2) hv T L v2 U2 [(ob, t2, oc), (mb, t3, mc.set 0 v2)] bw ms wv xs := by
  have q := h.sn (I := fun _ => False) (Sn.quiet hk 9) (fun x => x) (fun x => x) (fun x => x) (fun x => x) (fun x => x) (fun x => x)
  obtain ⟨z2, s8⟩ := Tz.put2 (v := v2) (U := U2) ⟨q.z.g, q.z.h, hd, q.z.x⟩ h2 v2
  exact ⟨z2, q.b.sn s8 (by decide), q.w.sn s8 (by decide)⟩
/-- the history moves -/
theorem Tq.move (h : Tq A w0 own W hv T L v U X bw ms wv xs) (hh : Ho own' 1 w' hv T' L') (s : Sn (fun x => x = 1) own W own' w') : Tq A w0 own' w' hv T' L' v U X bw ms wv xs :=
  ⟨⟨h.z.g.sn s (by decide), hh, h.z.d.sn s (by decide), fun e he => (h.z.x e he).sn s (by decide)⟩, h.b.sn s (by decide), h.w.sn s (by decide)⟩
/-- a byte of the row is written over -/
theorem Tq.put (h : Tq A w0 own W hv T L v U X bw ms wv xs) {i : Nat} (hi : i < xs.length) (y : Int) : ∃ b c u0, wv = .slice (some ⟨b, 0, none⟩) xs.length c ∧ W.frozen? ⟨b, i, none⟩ = false ∧ W.cell? ⟨b, i, none⟩ = some u0 ∧ Tq A w0 own (W.setCell ⟨b, i, none⟩ (.int .u8 y)) hv T L v U X bw ms wv (xs.set i y) := by
  obtain ⟨b, c, u0, e, fz, ce, x2, s⟩ := h.w.put hi y
  exact ⟨b, c, u0, e, fz, ce, ⟨h.z.sn s (by omega) (by omega) (by omega) (by omega), h.b.sn s (by omega), x2⟩⟩
/-- its first bytes -/
theorem Lx.front {b BL wc L3 : Nat} (h : Lx 5 mB own 7 W (.slice (some ⟨b, 0, none⟩) L3 wc) (ms ++ [91, 92, 93])) (hB : ms.length = BL) : Rd W (.slice (some ⟨b, 0, none⟩) BL wc) ms := by
  have hl : BL + 3 ≤ wc := by obtain ⟨_, c, e, h1⟩ := h.shape; injection e with _ _ e; subst e; rw [List.length_append, hB] at h1; exact h1
  refine ⟨⟨_, wc, by rw [bv_length, hB], by rw [bv_length, hB]; omega, fun j u hj => ?_⟩, fun l c e => by cases e⟩
  refine ⟨_, rfl, fun e => e, ?_⟩
  have hjl : j < ms.length := by have := (List.getElem?_eq_some_iff.1 hj).1; rwa [bv_length] at this
  have := h.1.cells rfl j u (by rw [List.map_append, List.getElem?_append_left (by rw [List.length_map]; exact hjl)]; exact hj)
  exact this
/-- make([]byte, 0, n) -/
theorem mkRun (w : World) (n : Nat) (hn : n ≤ 140737488355328) : ∃ w' c, (Instr.makeSlice 29 (.int .i64 0) (.int .i64 n)).run Tryd.prog w = .ok (.slice (some ⟨w.heap.size, 0, none⟩) 0 c) w' ∧ Aside (Ny w w' (.slice (some ⟨w.heap.size, 0, none⟩) 0 c) []) := by
  obtain ⟨i, hi, hz0, hz1, hz2⟩ := info_parts u8info
  have h := run_make (P := Tryd.prog) w 29 5 i _ Tryd.underlying29 hi hz0 .i64 .i64 0 n (by omega) (by omega) (by rw [hz2]; omega) (by omega)
  refine ⟨_, _, h, ⟨?_, (Keeps.refl _ _).alloc _⟩⟩
  exact World.ownsRow_made w _ _ (Nat.le_refl _) (by unfold maxLen; omega) (by simp [madeCells, hz1])
theorem lit3 (W : World) : Rd (W.alloc (.cells #[.int .u8 91, .int .u8 92, .int .u8 93] 5)) (.slice (some ⟨W.heap.size, 0, none⟩) 3 3) [91, 92, 93] := by
  refine ⟨⟨_, 3, rfl, Nat.le_refl _, fun j u hj => ⟨_, rfl, fun e => e, ?_⟩⟩, fun l c e => by cases e⟩
  have := (Cells.new W 5 (bv [91, 92, 93])).cell j
  rw [hj] at this
  rw [add_none, Nat.zero_add]
  exact this
/-- whole := append(append(make([]byte, 0, len(b)+3), b...), 91, 92, 93) -/
theorem wholeRun {BL B3 : Nat} (W : World) (hb : Rd W bw ms) (hB : ms.length = BL) (h3 : B3 = BL + 3) (hl : BL ≤ 70368744177664) : ∃ c5 w5 a6 c6 w6 b7 c7 w7, (Instr.makeSlice 29 (.int .i64 0) (.int .i64 ((BL : Int) + 3))).run Tryd.prog W = .ok (.slice (some ⟨W.heap.size, 0, none⟩) 0 c5) w5 ∧ (∀ ty, (Builtin.append_ #[29, 29] ty #[.slice (some ⟨W.heap.size, 0, none⟩) 0 c5, bw]).run Tryd.prog w5 = .ok (.slice a6 BL c6) w6) ∧ (∀ ty, (Builtin.append_ #[29, 29] ty #[.slice a6 BL c6, .slice (some ⟨w6.heap.size, 0, none⟩) 3 3]).run Tryd.prog (w6.alloc (.cells #[.int .u8 91, .int .u8 92, .int .u8 93] 5)) = .ok (.slice (some ⟨b7, 0, none⟩) B3 c7) w7) ∧ Aside (Ny W w7 (.slice (some ⟨b7, 0, none⟩) B3 c7) (ms ++ [91, 92, 93])) ∧ B3 ≤ c7 := by
  obtain ⟨w5, c5, run5, N5⟩ := mkRun W B3 (by omega)
  rw [show (B3 : Int) = (BL : Int) + 3 by omega] at run5
  obtain ⟨a6, c6, w6, run6, N6⟩ := appRun (m := BL) N5.it.row N5.it.k (hb.later N5.it.k.bel) (by simp; omega) (by simpa using hB)
  rw [List.nil_append] at N6
  have K6 : Keeps Nowhere w6 (w6.alloc (.cells #[.int .u8 91, .int .u8 92, .int .u8 93] 5)) := (Keeps.refl _ _).alloc _
  obtain ⟨a7, c7, w7, run7, N7⟩ := appRun (m := B3) (OwnB.later N6.it.row K6.bel) (N6.it.k.trans K6) (lit3 w6) (by simp; omega) (by rw [List.length_append, hB, h3]; rfl)
  have hx := N7.it.row
  rcases hx.2 with ⟨e, h0⟩ | ⟨g, cap, cur, e, _, _, h1, _⟩
  · rw [List.length_append] at h0; simp at h0
  · injection e with e1 e2 e3
    subst e1 e3
    rw [List.length_append, hB] at h1
    exact ⟨c5, w5, a6, c6, w6, g, c7, w7, run5, run6, run7, N7, by simp at h1; omega⟩
/-- the lists that were answered: rests (5, 100 + 2 k), keys (6, 101 + 2 k) -/
structure Tk (A : Nat → Addr) (w0 : World) (own : Nat → Nat) (W : World) (hv : Value) (T : Nat) (L : Hs) (v : Value) (U : Ds) (X : Bx) (ra : Value) (rs : List Value) (f : Nat → List Int) (ka : Value) (ks : List Value) : Prop where
  z : Tz A w0 own W hv T L v U X
  p : Fam 5 29 mB 5 100 97 own W ra rs f (.slice none 0 0) [] (fun _ => [])
  q : Fam 3 47 mI 6 101 96 own W ka ks (fun _ => tk L) (.slice none 0 0) [] (fun _ => [])
  b : ∀ k, (f k).length ≤ 4398046511104
theorem Tk.sn (h : Tk A w0 own W hv T L v U X ra rs f ka ks) (s : Sn I own W own' w') (hI : ∀ k, ¬ I k) : Tk A w0 own' w' hv T L v U X ra rs f ka ks := ⟨h.z.sn s (hI _) (hI _) (hI _) (hI _), h.p.sn s (hI _) (hI _) (fun _ => hI _), h.q.sn s (hI _) (hI _) (fun _ => hI _), h.b⟩
theorem Tk.quiet (h : Tk A w0 own W hv T L v U X ra rs f ka ks) (hk : Keeps Nowhere W w') : Tk A w0 own w' hv T L v U X ra rs f ka ks := h.sn (I := fun _ => False) (Sn.same hk) (fun _ x => x)
theorem Tk.step (h : Tk A w0 own W hv T L v U X ra rs f ka ks) (hk : Keeps Nowhere W w') (o : Nat) : Tk A w0 (give own W.heap.size o) w' hv T L v U X ra rs f ka ks := h.sn (I := fun _ => False) (Sn.quiet hk o) (fun _ x => x)
theorem Tk.box (h : Tk A w0 own W hv T L v U X ra rs f ka ks) (t : TypeId) (cs : List Value) : Tk A w0 (give own W.heap.size 8) (W.alloc (.cells cs.toArray t)) hv T L v U ((W.heap.size, t, cs) :: X) ra rs f ka ks := by
  have k := h.step ((Keeps.refl _ _).alloc (.cells cs.toArray t)) 8
  exact { k with z := h.z.box t cs }
theorem Tk.drop {e : Nat × TypeId × List Value} (h : Tk A w0 own W hv T L v U (e :: X) ra rs f ka ks) : Tk A w0 own W hv T L v U X ra rs f ka ks := { h with z := h.z.drop }
/-- with a list of bytes that is to come behind -/
structure Tl (A : Nat → Addr) (w0 : World) (own : Nat → Nat) (W : World) (hv : Value) (T : Nat) (L : Hs) (v : Value) (U : Ds) (X : Bx) (ra : Value) (rs : List Value) (f : Nat → List Int) (ka : Value) (ks : List Value) (rv : Value) (xs : List Int) : Prop where
  k : Tk A w0 own W hv T L v U X ra rs f ka ks
  x : Lx 5 mB own (100 + 2 * rs.length) W rv xs
theorem Tl.quiet (h : Tl A w0 own W hv T L v U X ra rs f ka ks rv xs) (hk : Keeps Nowhere W w') : Tl A w0 own w' hv T L v U X ra rs f ka ks rv xs := ⟨h.k.quiet hk, h.x.sn (I := fun _ => False) (Sn.same hk) (fun x => x)⟩
theorem tk_rest (h : Aside (Tk A w0 own W hv T L v U X ra rs f ka ks)) (hz : Zw z) (hT : T ≤ 70368744177664) : Calls Tryd.prog 14 #[hv, .int .i64 z] W fun e w' => ∃ q l c own', e = .returned (.slice q l c) ∧ Aside (Tl A w0 own' w' hv T L v U X ra rs f ka ks (.slice q l c) (got L z).rest) := by
  refine (ho_rest h.it.z.h hz hT).mono ?_
  rintro e w' ⟨q, n, c, rfl, R, K⟩
  exact ⟨q, n, c, _, rfl, ⟨⟨h.it.step K.it (100 + 2 * rs.length), ⟨owns_any R.it, fun b hb => ⟨give_new (owns_base R.it b hb), owns_lt R.it b hb⟩⟩⟩⟩⟩
theorem Lx.rd {o : Nat} (h : Lx 5 mB own o W v xs) : Rd W v xs := OwnB.rd (B := 0) h.1
/-- a list comes behind the others -/
theorem Fam.push {t ts : TypeId} {m : Int → Value} {b c g : Nat} {av gv v v' : Value} {vs ys : List Value} {f G : Nat → List Int} {l : List Int} (h : Fam t ts m b c g own w av vs f gv ys G) (hb : b ≠ g) (hc : b < c) (hX : Lx t m own (c + 2 * vs.length) w v l) (hk : Keeps Nowhere w W) (ho : w'.ownsRow 0 ts 1 v' (vs.length + 1) (vs ++ [v])) (sp : Split av v' 1 W w') : Fam t ts m b c g (give own w.heap.size b) w' v' (vs ++ [v]) (fun j => if j = vs.length then l else f j) gv ys G ∧ Sn (fun q => q = b) own w (give own w.heap.size b) w' := by
  obtain ⟨a, s⟩ := h.all.app hk ho sp
  refine ⟨⟨by rw [List.length_append]; exact a, fun j u e => ?_, h.gr.sn s (fun x => hb x.symm), fun j u e => (h.gs j u e).sn s (by omega)⟩, s⟩
  rcases Nat.lt_trichotomy j vs.length with hj | hj | hj
  · rw [List.getElem?_append_left hj] at e
    rw [if_neg (by omega)]
    exact (h.xs j u e).sn s (by omega)
  · subst hj
    rw [List.getElem?_append_right (Nat.le_refl _)] at e
    simp at e
    subst e
    rw [if_pos rfl]
    exact hX.sn s (by omega)
  · rw [List.getElem?_append_right (by omega), List.getElem?_eq_none (by simp; omega)] at e
    cases e
theorem Fam.pushRun {t ts st : TypeId} {m : Int → Value} {b c g : Nat} {av gv v : Value} {vs ys : List Value} {f G : Nat → List Int} {l : List Int} (h : Fam t ts m b c g own w av vs f gv ys G) (hst : Tryd.prog.underlying st = some (.slice ts)) (hin : (Tryd.prog.info? ts).map (fun i => (i.zero, i.size, i.bytes)) = some (some (.slice none 0 0), 1, 24)) (hb : b ≠ g) (hc : b < c) (hX : Lx t m own (c + 2 * vs.length) w v l) (hv : v.oneCell' = true) (hn : vs.length ≤ 16777216) : ∃ (a : Option Addr) (cp : Nat) (w' : World) (own' : Nat → Nat), (∀ ty, (Builtin.append_ #[st, st] ty #[av, .slice (some ⟨w.heap.size, 0, none⟩) 1 1]).run Tryd.prog (w.alloc (.cells #[v] ts)) = .ok (.slice a (vs.length + 1) cp) w') ∧ Aside (Fam t ts m b c g own' w' (.slice a (vs.length + 1) cp) (vs ++ [v]) (fun j => if j = vs.length then l else f j) gv ys G ∧ Sn (fun q => q = b) own w own' w') := by
  obtain ⟨i, hi, hz0, hz1, hz2⟩ := info_parts hin
  have K : Keeps Nowhere w (w.alloc (.cells #[v] ts)) := (Keeps.refl _ _).alloc _
  obtain ⟨u, w', run, o', sp⟩ := run_appendS (P := Tryd.prog) (w.alloc (.cells #[v] ts)) st ts i _ 1 24 hst hi hz0 hz1 hz2 rfl (by decide) av vs.length vs (owns_later h.all.1 K (fun _ _ x => x)) (.slice (some ⟨w.heap.size, 0, none⟩) 1 1) 1 [v] (by decide) (reads_one w v) (by simp [hv]) (by omega) (by unfold maxLen; omega)
  obtain ⟨a, cp, rfl⟩ := slice_len o'
  exact ⟨a, cp, w', _, run, ⟨h.push hb hc hX K o' sp⟩⟩
theorem Tl.push (h : Tl A w0 own W hv T L v U X ra rs f ka ks rv xs) (hv1 : rv.oneCell' = true) (hn : rs.length ≤ 16777216) (hx : xs.length ≤ 4398046511104) : ∃ (a : Option Addr) (cp : Nat) (w' : World) (own' : Nat → Nat), (∀ ty, (Builtin.append_ #[42, 42] ty #[ra, .slice (some ⟨W.heap.size, 0, none⟩) 1 1]).run Tryd.prog (W.alloc (.cells #[rv] 29)) = .ok (.slice a (rs.length + 1) cp) w') ∧ Aside (Tk A w0 own' w' hv T L v U X (.slice a (rs.length + 1) cp) (rs ++ [rv]) (fun j => if j = rs.length then xs else f j) ka ks) := by
  obtain ⟨a, cp, w', own', run, P⟩ := h.k.p.pushRun (st := 42) Tryd.underlying42 infoL (by decide) (by decide) h.x hv1 hn
  have s := P.it.2
  exact ⟨a, cp, w', own', run, ⟨h.k.z.sn s (by decide) (by decide) (by decide) (by decide), P.it.1, h.k.q.sn s (by decide) (by decide) (fun j => by omega), fun k => by split; exact hx; exact h.k.b k⟩⟩
/-- with a list of keys that is to come behind -/
structure Tn2 (A : Nat → Addr) (w0 : World) (own : Nat → Nat) (W : World) (hv : Value) (T : Nat) (L : Hs) (v : Value) (U : Ds) (X : Bx) (ra : Value) (rs : List Value) (f : Nat → List Int) (ka : Value) (ks : List Value) (rv : Value) : Prop where
  k : Tk A w0 own W hv T L v U X ra rs f ka ks
  x : Lx 3 mI own (101 + 2 * ks.length) W rv (tk L)
theorem Tn2.quiet (h : Tn2 A w0 own W hv T L v U X ra rs f ka ks rv) (hk : Keeps Nowhere W w') : Tn2 A w0 own w' hv T L v U X ra rs f ka ks rv := ⟨h.k.quiet hk, h.x.sn (I := fun _ => False) (Sn.same hk) (fun x => x)⟩
theorem tk_keys (h : Aside (Tk A w0 own W hv T L v U X ra rs f ka ks)) : Calls Tryd.prog 15 #[hv] W fun e w' => ∃ q l c own', e = .returned (.slice q l c) ∧ Aside (Tn2 A w0 own' w' hv T L v U X ra rs f ka ks (.slice q l c)) := by
  refine (ho_keys h.it.z.h).mono ?_
  rintro e w' ⟨kv, rfl, R, K⟩
  obtain ⟨q, c, rfl⟩ := slice_len R.it
  exact ⟨q, _, c, _, rfl, ⟨⟨h.it.step K.it (101 + 2 * ks.length), ⟨owns_any R.it, fun b hb => ⟨give_new (owns_base R.it b hb), owns_lt R.it b hb⟩⟩⟩⟩⟩
theorem Tn2.push (h : Tn2 A w0 own W hv T L v U X ra rs f ka ks rv) (hv1 : rv.oneCell' = true) (hn : ks.length ≤ 16777216) : ∃ (a : Option Addr) (cp : Nat) (w' : World) (own' : Nat → Nat), (∀ ty, (Builtin.append_ #[43, 43] ty #[ka, .slice (some ⟨W.heap.size, 0, none⟩) 1 1]).run Tryd.prog (W.alloc (.cells #[rv] 47)) = .ok (.slice a (ks.length + 1) cp) w') ∧ Aside (Tk A w0 own' w' hv T L v U X ra rs f (.slice a (ks.length + 1) cp) (ks ++ [rv])) := by
  obtain ⟨a, cp, w', own', run, P⟩ := h.k.q.pushRun (st := 43) Tryd.underlying43 infoS (by decide) (by decide) h.x hv1 hn
  have s := P.it.2
  exact ⟨a, cp, w', own', run, ⟨h.k.z.sn s (by decide) (by decide) (by decide) (by decide), h.k.p.sn s (by decide) (by decide) (fun j => by omega), P.it.1.more (fun k _ => by split <;> rfl), h.k.b⟩⟩
/-- a list of keys, read -/
theorem Lx.rdI {o : Nat} (h : Lx 3 mI own o W v (tk L)) (ok : TOk T L) : RdI W v (tk L) := owns_rdI h.1 (fun z hz => by obtain ⟨x, hx, rfl⟩ := List.mem_map.1 hz; exact ok.kb x hx)
theorem tk_same {kv : Value} (h : Aside (Tk A w0 own W hv T L v U X ra rs f ka ks)) (hm : mdl U = L) (hl : U.length ≤ 1073741824) {o : Nat} (hk : Lx 3 mI own o W kv (tk L)) : Calls Tryd.prog 16 #[kv, .agg #[v]] W fun e w' => e = .returned (.bool true) ∧ Aside (Keeps Nowhere W w') := sameKeys_at h.it.z.d hl (by rw [hm]; exact hk.rdI h.it.z.h.ok)
/-- a row of the document's, its cells -/
theorem RdD.row5 {j : Nat} {d : Dr} (h : RdD own W v U) (hj : U[j]? = some d) : ∃ g c, v = .slice (some ⟨g, 0, none⟩) U.length c ∧ U.length ≤ c ∧ RowAt5 W g (j * 5) d := by
  obtain ⟨a, c, rfl, hl, hc⟩ := h.s
  obtain ⟨g, rfl, _, hr⟩ := hc j d hj
  exact ⟨g, c, rfl, hl, hr⟩
end
end Go.Proofs.YtambdgcogldbgaaDoor

/-
  culvertlaw24.TraceMemory
-/
namespace Go.Proofs.YtambdgcogldbgaaDoor
open Go.RowKit Go.Maps
attribute [-go_sem] Builtin.append_

section
variable {A : Nat → Addr} {w w' w0 W w1 w2 : World} {own own' : Nat → Nat} {v vn hv bw sl wv ra ka rv : Value} {U Un : Ds} {I : Nat → Prop} {k z : Int} {T T' p : Nat} {ms ns xs : List Int} {L L' : Hs} {X : Bx} {rs ks : List Value} {f : Nat → List Int} {kd ky n : Int} {nx : Bool} {ob mb rb : Nat} {t2 t3 : TypeId}
theorem Tz.cells6 (h : Aside (Tz A w0 own W hv T L v U [(ob, t2, [.int .i64 kd, .int .i64 ky, .int .i64 n, .bool nx, sl]), (mb, t3, [v])])) : W.cell? ⟨mb, 0, none⟩ = some v ∧ W.cell? ⟨ob, 0, none⟩ = some (.int .i64 kd) ∧ W.cell? ⟨ob, 1, none⟩ = some (.int .i64 ky) ∧ W.cell? ⟨ob, 2, none⟩ = some (.int .i64 n) ∧ W.cell? ⟨ob, 3, none⟩ = some (.bool nx) ∧ W.cell? ⟨ob, 4, none⟩ = some sl := by
  have h1 := (h.it.x (mb, t3, [v]) (by simp)).1
  have h2 := (h.it.x (ob, t2, [.int .i64 kd, .int .i64 ky, .int .i64 n, .bool nx, sl]) (by simp)).1
  exact ⟨by rw [h1.cell]; rfl, by rw [h2.cell]; rfl, by rw [h2.cell]; rfl, by rw [h2.cell]; rfl, by rw [h2.cell]; rfl, by rw [h2.cell]; rfl⟩
theorem Tb.cells6 (h : Aside (Tb A w0 own W hv T L v U [(ob, t2, [.int .i64 kd, .int .i64 ky, .int .i64 n, .bool nx, sl]), (mb, t3, [v])] bw ms)) : W.cell? ⟨mb, 0, none⟩ = some v ∧ W.cell? ⟨ob, 0, none⟩ = some (.int .i64 kd) ∧ W.cell? ⟨ob, 1, none⟩ = some (.int .i64 ky) ∧ W.cell? ⟨ob, 2, none⟩ = some (.int .i64 n) ∧ W.cell? ⟨ob, 3, none⟩ = some (.bool nx) ∧ W.cell? ⟨ob, 4, none⟩ = some sl := Tz.cells6 ⟨h.it.z⟩
theorem Tq.cells6 (h : Aside (Tq A w0 own W hv T L v U [(ob, t2, [.int .i64 kd, .int .i64 ky, .int .i64 n, .bool nx, sl]), (mb, t3, [v])] bw ms wv xs)) : W.cell? ⟨mb, 0, none⟩ = some v ∧ W.cell? ⟨ob, 0, none⟩ = some (.int .i64 kd) ∧ W.cell? ⟨ob, 1, none⟩ = some (.int .i64 ky) ∧ W.cell? ⟨ob, 2, none⟩ = some (.int .i64 n) ∧ W.cell? ⟨ob, 3, none⟩ = some (.bool nx) ∧ W.cell? ⟨ob, 4, none⟩ = some sl := Tz.cells6 ⟨h.it.z⟩
theorem Tq.cellk (h : Aside (Tq A w0 own W hv T L v U [(ob, t2, [.int .i64 kd, .int .i64 ky, .int .i64 n, .bool nx, sl]), (mb, t3, [v])] bw ms wv xs)) : W.cell? ⟨ob, 1, none⟩ = some (.int .i64 ky) := (Tq.cells6 h).2.2.1
theorem Tq.mfz (h : Tq A w0 own W hv T L v U [(ob, t2, [.int .i64 kd, .int .i64 ky, .int .i64 n, .bool nx, sl]), (mb, t3, [v])] bw ms wv xs) (hk : Keeps Nowhere W w') : w'.frozen? ⟨mb, 0, none⟩ = false ∧ w'.cell? ⟨mb, 0, none⟩ = some v := by
  have h1 := (h.z.x (mb, t3, [v]) (by simp)).1.later hk (fun x => x)
  exact ⟨h1.frozen 0, by rw [h1.cell]; rfl⟩
theorem mem_zw {i : Nat} {d : Dr} (ok : TOk T L) (hm : mdl U = L) (hd : U[i]? = some d) : Zw d.k := by
  have : (d.k, d.r) ∈ L := by rw [← hm]; exact List.mem_map.2 ⟨d, List.mem_of_getElem? hd, rfl⟩
  exact ok.kb _ this
theorem Tk.cellm (h : Aside (Tk A w0 own W hv T L v U [(mb, t3, [v])] ra rs f ka ks)) : W.cell? ⟨mb, 0, none⟩ = some v := by
  rw [(h.it.z.x (mb, t3, [v]) (by simp)).1.cell]; rfl
theorem Tl.cells2 {du x2 x3 x4 : Value} (h : Tl A w0 own W hv T L v U [(rb, t2, [.int .i64 ky, du, x2, x3, x4]), (mb, t3, [v])] ra rs f ka ks rv xs) : W.cell? ⟨mb, 0, none⟩ = some v ∧ W.cell? ⟨rb, 0, none⟩ = some (.int .i64 ky) := by
  have h1 := (h.k.z.x (mb, t3, [v]) (by simp)).1
  have h2 := (h.k.z.x (rb, t2, [.int .i64 ky, du, x2, x3, x4]) (by simp)).1
  exact ⟨by rw [h1.cell]; rfl, by rw [h2.cell]; rfl⟩
theorem str_run {x : Value} {l : List Int} {S : ByteArray} (h : Rd W x l) (hS : Aside (strOf l = S)) : (convert 29 9 x).run Tryd.prog W = .ok (.string S) W := by
  rw [← hS.it]; exact rd_conv h
end
set_option maxRecDepth 20000 in
set_option maxHeartbeats 40000000 in
theorem traceMemory_walkU {A : Nat → Addr} (s : Value) (zs : List OpV24) (w : World) (hs : LdT A w) (hz : Ops24ArgU w s zs) :
    Calls Tryd.prog 3 #[s] w fun e w' => e = .returned (.bool true) ∧ Below w.heap.size w w' := by
  obtain ⟨hz20, hz⟩ := hz
  have HZ := Aside.mk hz
  obtain ⟨a, c, rfl, hzc, hcm, _⟩ := hz
  obtain ⟨N, hN⟩ : ∃ N, zs.length = N := ⟨_, rfl⟩
  have HN := Aside.mk hN
  rw [hN] at hzc hz20 ⊢
  have FX := Aside.mk (fixed24 hs)
  have HS := Aside.mk hs
  have hNm : (N : Int) ≤ 1048576 := by omega
  clear hs hN
  go_enter Tryd.func3, Tryd.ntmps3
  go_upto_region 3 with (go_at_call 4; refine FX.it.mono ?_; rintro e w1 ⟨rfl, K1⟩)
  clear FX
  have NW := Aside.mk (newT w1 (fun _ => 0) 1)
  go_upto_region 4 with (first
      | (go_at_call 5; refine NW.it.mono ?_; clear NW; rintro e w2 ⟨ph, own2, rfl, X2⟩)
      | fail)
  have J2 : Aside (Tn A w (ptr ph) 0 0 w2.heap.size (.slice none 0 0) (w2.alloc (.cells #[.slice none 0 0] 28))) := ⟨_, 0, [], [], Nat.le_refl _, Nat.le_refl _, rfl, Tz.box (X := []) ⟨((OnG.start HS.it.s).sn (I := fun _ => False) (Sn.same K1.it) (fun x => x)).sn X2.it.2.2 (fun x => x), .inl ⟨ph, rfl, X2.it.1⟩, RdD.nil _ _, fun e he => by cases he⟩ _ [.slice none 0 0]⟩
  clear X2 K1
  go_upto_region 5 with fail
  generalize w2.alloc (.cells #[.slice none 0 0] 28) = w3 at J2 ⊢
  generalize w2.heap.size = mb at J2 ⊢
  go_upto_block 0 with fail
  go_cut [] (fun wx => ∃ q l c, Aside (Tn A w (ptr ph) (N * 1048576) N mb (.slice q l c) wx))
  case first =>
    go_wp2_with fail
    go_loopw [30] (fun jv wr => ∃ (j : Nat) (q : Option Addr) (l c : Nat), jv = .int .i64 j ∧ j ≤ N ∧ Aside (Tn A w (ptr ph) (j * 1048576) j mb (.slice q l c) wr)) (fun jv _ => N - natOfT jv)
    case atStart => exact ⟨0, none, 0, 0, rfl, Nat.zero_le _, by simpa using J2⟩
    case round =>
      clear J2
      obtain ⟨j, q, l, c', rfl, hj, J⟩ := hrel
      rcases Nat.eq_or_lt_of_le hj with rfl | hlt
      · go_wp2_with fail
        go_meet
        exact ⟨q, l, c', J⟩
      · obtain ⟨z, hz⟩ : ∃ z, zs[j]? = some z := ⟨_, List.getElem?_eq_getElem (by rw [HN.it]; exact hlt)⟩
        have hzw := HZ.it
        rw [HN.it] at hzw
        obtain ⟨b, o, rfl, OC, hrd, hby, hnb, hzk, hzn⟩ := op24_cells (by rw [HN.it]; exact hzw) hz
        clear hz hzw
        obtain ⟨kd, ky, n, nx, sl, ns⟩ := z
        simp only at OC hrd hnb hby hzn hzk
        obtain ⟨own, T, L, U, hT, hL, hm, tz⟩ := J.it
        obtain ⟨sa, sc, hsl⟩ := hrd.shape
        subst hsl
        have HR := Aside.mk (And.intro hrd (And.intro hby (And.intro hnb (And.intro hzk (And.intro hT (And.intro hL hm))))))
        have i1 : (j : Int) ≤ 9223372036854775806 := by omega
        have k0 := tz.g.cell OC.it.1
        have k1 := tz.g.cell OC.it.2.1
        have k2 := tz.g.cell OC.it.2.2.1
        have k3 := tz.g.cell OC.it.2.2.2.1
        have k4 := tz.g.cell OC.it.2.2.2.2
        have T4 := Aside.mk (tz.box 31 [.int .i64 kd, .int .i64 ky, .int .i64 n, .bool nx, .slice sa ns.length sc])
        have hob : Aside (mb ≠ wr.heap.size) := ⟨by have := (tz.x (mb, 28, [.slice q l c']) (by simp)).1.lt; omega⟩
        obtain ⟨B, hB⟩ : ∃ B, ns.length = B := ⟨_, rfl⟩
        rw [hB] at k4 T4
        have HBB := Aside.mk hB
        clear J tz hT hL hB hrd hby hm hzk
        go_upto_region 8 with fail
        clear k0 k1 k2 k3 k4
        generalize wr.alloc (.cells #[.int .i64 kd, .int .i64 ky, .int .i64 n, .bool nx, .slice sa B sc] 31) = w4 at T4 ⊢
        generalize wr.heap.size = ob at T4 hob ⊢
        generalize give own _ 8 = own4 at T4
        have HL : Aside (U.length ≤ 1073741823 ∧ T + 1048576 ≤ 70368744177664 ∧ B ≤ 1048576) := ⟨by have h1 := HR.it.2.2.2.2.2.1; have h2 := HR.it.2.2.2.2.1; have h3 := HR.it.2.2.2.2.2.2; rw [← h3, mdl_len] at h1; have := HR.it.2.2.1; rw [HBB.it] at this; omega⟩
        have HRD := Aside.mk HR.it.1
        rw [HBB.it] at HRD
        have HM := Aside.mk HR.it.2.2.2.2.2.2
        have ok := Aside.mk T4.it.h.ok
        have HD : Aside (U.length ≤ 1073741824 ∧ T ≤ 70368744177664 ∧ ns.length ≤ 70368744177664 ∧ (got L ky).rest.length ≤ 70368744177664) := ⟨by
          have h1 := HL.it
          refine ⟨by omega, by omega, by rw [HBB.it]; omega, ?_⟩
          rw [Rc.rest_len]; have := (ok.it.got ky).len; omega⟩
        have Td := Aside.mk (T4.it.quiet (Keeps.refl _ _).drew)
        clear T4
        go_cut [7] (fun bx wx => ∃ q2 l2 c2 own', bx = .slice q2 l2 c2 ∧ Aside (Tb A w own' wx (ptr ph) T L (.slice q l c') U [(ob, 31, [.int .i64 kd, .int .i64 ky, .int .i64 n, .bool nx, .slice sa B sc]), (mb, 28, [.slice q l c'])] (.slice q2 l2 c2) (givB nx n ns (got L ky).rest)))
        case first =>
          go_region_held3 (fun W => W.cell? ⟨mb, 0, none⟩ = some (.slice q l c') ∧ W.cell? ⟨ob, 0, none⟩ = some (.int .i64 kd) ∧ W.cell? ⟨ob, 1, none⟩ = some (.int .i64 ky) ∧ W.cell? ⟨ob, 2, none⟩ = some (.int .i64 n) ∧ W.cell? ⟨ob, 3, none⟩ = some (.bool nx) ∧ W.cell? ⟨ob, 4, none⟩ = some (.slice sa B sc)) (first | with_reducible exact Tz.cells6 (by with_reducible assumption) | with_reducible exact Tb.cells6 (by with_reducible assumption)) (first
            | (go_at_call 6; with_reducible refine (tb_bytes S5 HRD.it HD.it.2.2.1 HD.it.2.2.2).mono ?_; rintro e w6 ⟨q6, l6, c6, own6, rfl, S6⟩)
            | (go_at_call 7; with_reducible refine (tb_rest Td HM.it HD.it.1 HD.it.2.1 ky).mono ?_; rintro e w5 ⟨q5, l5, c5, own5, rfl, S5⟩)
            | fail)
          all_goals go_wp2_with fail
          all_goals go_meet
          all_goals exact ⟨q6, l6, c6, own6, rfl, S6⟩
        case rest =>
          obtain ⟨q6, l6, c6, own6, rfl, S6⟩ := hcut
          clear Td
          obtain ⟨k0, k1, k2, k3, k4, k5⟩ := Tb.cells6 S6
          obtain ⟨ms, hms⟩ : ∃ ms, givB nx n ns (got L ky).rest = ms := ⟨_, rfl⟩
          have HBM : Aside (AreBytes ms ∧ ms.length = l6 ∧ ms.length ≤ 70368744177664) := ⟨by
            refine ⟨?_, ?_, ?_⟩
            · rw [← hms]
              unfold givB
              split
              · exact fun y hy => (ok.it.got ky).byte y (List.mem_of_mem_drop (List.mem_of_mem_take hy))
              · exact HR.it.2.1
            · obtain ⟨_, _, e⟩ := S6.it.rd.shape
              rw [hms] at e
              injection e with _ e _
              exact e.symm
            · rw [← hms]
              unfold givB
              split
              · rw [List.length_take]; have := HD.it.2.2.2; omega
              · exact HD.it.2.2.1⟩
          rw [hms] at S6
          clear hms
          by_cases hk : kd = 0 ∨ kd = 2
          · go_upto_region 9 with fail
            go_cut [47] (fun cv wx => cv = .bool false ∧ wx = wc)
            case first =>
              rcases hk with rfl | rfl
              all_goals go_wp2_with fail
              all_goals go_meet
              all_goals exact ⟨rfl, rfl⟩
            case rest =>
              obtain ⟨rfl, rfl⟩ := hcut
              go_upto_if 60 with fail
              go_cut [7] (fun bx wx => ∃ q7 c7 ms7 l7 own7, bx = .slice q7 l7 c7 ∧ Aside (Tb A w own7 wx (ptr ph) T L (.slice q l c') U [(ob, 31, [.int .i64 kd, .int .i64 ky, .int .i64 n, .bool nx, .slice sa B sc]), (mb, 28, [.slice q l c'])] (.slice q7 l7 c7) ms7) ∧ Aside (ms7.length = l7 ∧ AreBytes ms7 ∧ l7 ≤ 70368744177664 ∧ (kd = 0 → l7 ≤ 1048576)))
              case first =>
                rcases hk with rfl | rfl
                · go_wp2_with fail
                  go_meet
                  exact ⟨sa, sc, ns, B, own6, rfl, ⟨S6.it.z, .inl HRD.it⟩, ⟨HBB.it, HR.it.2.1, by rw [← HBB.it]; exact HD.it.2.2.1, fun _ => HL.it.2.2⟩⟩
                · go_wp2_with fail
                  go_meet
                  exact ⟨q6, c6, ms, l6, own6, rfl, S6, ⟨HBM.it.2.1, HBM.it.1, by rw [← HBM.it.2.1]; exact HBM.it.2.2, fun e => by omega⟩⟩
              case rest =>
                obtain ⟨q7, c7, ms7, l7, own7, rfl, S7, H7⟩ := hcut
                clear S6 HBM k0 k1 k2 k3 k4 k5
                obtain ⟨B3, hB3⟩ : ∃ B3, Aside (B3 = l7 + 3) := ⟨_, ⟨rfl⟩⟩
                obtain ⟨c5, w5, a6, c6, w6, b7, c8, w7, run5, run6, run7, N7, hc8⟩ := wholeRun wc S7.it.rd H7.it.1 hB3.it H7.it.2.2.1
                have Q7 := Aside.mk (S7.it.whole N7.it)
                have hl7 : (l7 : Int) ≤ 70368744177664 := by have := H7.it.2.2.1; omega
                have hlc : (l7 : Int) ≤ c8 := by have := hB3.it; omega
                generalize give own7 wc.heap.size 7 = own8 at Q7
                clear N7 S7 hc8
                go_upto_region 17 with fail
                clear run5 run6 run7
                obtain ⟨k0, k1, k2, k3, k4, k5⟩ := Tq.cells6 Q7
                go_upto_if 75 with fail
                clear k0 k1 k2 k3 k4 k5
                go_cut [] (fun wx => ∃ q9 l9 c9 U9 T9 L9 own9, Aside (Tq A w own9 wx (ptr ph) T9 L9 (.slice q9 l9 c9) U9 [(ob, 31, [.int .i64 kd, .int .i64 ky, .int .i64 n, .bool nx, .slice sa B sc]), (mb, 28, [.slice q9 l9 c9])] (.slice q7 l7 c7) ms7 (.slice (some ⟨b7, 0, none⟩) B3 c8) (ms7 ++ [91, 92, 93])) ∧ Aside (mdl U9 = L9 ∧ T9 ≤ T + 1048576 ∧ L9.length ≤ L.length + 1))
                case first =>
                  have HNL : Aside (L.length + 1 ≤ 2147483648) := ⟨by rw [← HM.it, mdl_len]; have := HD.it.1; omega⟩
                  have HO : Aside (TOk T (mdl U)) := ⟨by rw [HM.it]; exact ok.it⟩
                  obtain ⟨k0, k1, k2, k3, k4, k5⟩ := Tq.cells6 Q7
                  rcases hk with rfl | rfl
                  · have HTT : Aside (T + ms7.length ≤ 70368744177664) := ⟨by have := H7.it.2.2.2 rfl; have := H7.it.1; have := HL.it.2.1; omega⟩
                    have DR := Aside.mk (dWrote Q7.it.z.d HD.it.1 HO.it ky Q7.it.rd HTT.it)
                    go_upto_region 20 with (first
                      | (go_at_call 9; refine DR.it.mono ?_; clear DR; rintro e w9 ⟨q9, l9, c9, U9, rfl, D9, K9⟩; obtain ⟨g1, g2⟩ := Tq.mfz Q7.it K9.it)
                      | fail)
                    have Q9 := Aside.mk (Q7.it.next hob.it K9.it D9.it.1)
                    clear k0 k1 k2 k3 k4 k5 g1 g2 Q7 K9
                    generalize w9.setCell ⟨mb, 0, none⟩ (.slice q9 l9 c9) = w10 at Q9 ⊢
                    generalize give own8 _ 9 = own9 at Q9 D9
                    rw [show [(Value.slice q l c')].set 0 (.slice q9 l9 c9) = [.slice q9 l9 c9] from rfl] at Q9
                    have Qd := Aside.mk (Q9.it.quiet (Keeps.refl _ _).drew)
                    have PR := Aside.mk (wrote_at Qd.it.z.h.tr HR.it.2.2.2.1 Qd.it.z.g.sents (Qd.it.w.front H7.it.1) H7.it.2.1 HTT.it HNL.it)
                    clear Q9
                    go_region_held3 (fun W => W.cell? ⟨ob, 1, none⟩ = some (.int .i64 ky)) (with_reducible exact Tq.cellk (by with_reducible assumption)) (first
                      | (go_at_call 10; refine PR.it.mono ?_; rintro e w11 ⟨ev, own11, rfl, C11, X11⟩; have Q11 := Aside.mk (Qd.it.move (.inl ⟨ph, rfl, X11.it.1⟩) X11.it.2))
                      | fail)
                    all_goals go_wp2_with fail
                    all_goals go_meet
                    all_goals exact ⟨q9, l9, c9, U9, T + ms7.length, _, own11, Q11, ⟨by rw [D9.it.2, HM.it], by have := H7.it.2.2.2 (by trivial); have := H7.it.1; omega, len_wrote ok.it ky ms7⟩⟩
                  · have DR := Aside.mk (dGave Q7.it.z.d HD.it.1 HO.it ky Q7.it.rd H7.it.2.1 HD.it.2.1)
                    go_upto_region 22 with (first
                      | (go_at_call 11; refine DR.it.mono ?_; clear DR; rintro e w9 ⟨q9, l9, c9, U9, rfl, D9, K9⟩; obtain ⟨g1, g2⟩ := Tq.mfz Q7.it K9.it)
                      | fail)
                    have Q9 := Aside.mk (Q7.it.next hob.it K9.it D9.it.1)
                    clear k0 k1 k2 k3 k4 k5 g1 g2 Q7 K9
                    generalize w9.setCell ⟨mb, 0, none⟩ (.slice q9 l9 c9) = w10 at Q9 ⊢
                    generalize give own8 _ 9 = own9 at Q9 D9
                    rw [show [(Value.slice q l c')].set 0 (.slice q9 l9 c9) = [.slice q9 l9 c9] from rfl] at Q9
                    have Qd := Aside.mk (Q9.it.quiet (Keeps.refl _ _).drew)
                    have PR := Aside.mk (gave_at Qd.it.z.h.tr HR.it.2.2.2.1 Qd.it.z.g.sents (Qd.it.w.front H7.it.1) H7.it.2.1 HD.it.2.1 HNL.it)
                    clear Q9
                    go_region_held3 (fun W => W.cell? ⟨ob, 1, none⟩ = some (.int .i64 ky)) (with_reducible exact Tq.cellk (by with_reducible assumption)) (first
                      | (go_at_call 12; refine PR.it.mono ?_; rintro e w11 ⟨ev, own11, rfl, C11, X11⟩; have Q11 := Aside.mk (Qd.it.move (.inl ⟨ph, rfl, X11.it.1⟩) X11.it.2))
                      | fail)
                    all_goals go_wp2_with fail
                    all_goals go_meet
                    all_goals exact ⟨q9, l9, c9, U9, T, _, own11, Q11, ⟨by rw [D9.it.2, HM.it], Nat.le_add_right _ _, len_gave ok.it ky ms7⟩⟩
                case rest =>
                  obtain ⟨q9, l9, c9, U9, T9, L9, own9, Q9, HE⟩ := hcut
                  clear Q7 hk
                  obtain ⟨SB, hS⟩ : ∃ SB, Aside (strOf ms7 = SB) := ⟨_, ⟨rfl⟩⟩
                  have HQ0 : Aside ((ms7 ++ [91, 92, 93]).length = B3) := ⟨by rw [List.length_append, H7.it.1, hB3.it]; rfl⟩
                  have KD : Aside (Keeps Nowhere wc wc.drew) := ⟨(Keeps.refl _ _).drew⟩
                  have SS : Aside (∀ W', Keeps Nowhere wc W' → (convert 29 9 (.slice (some ⟨b7, 0, none⟩) l7 c8)).run Tryd.prog W' = .ok (.string SB) W' ∧ (convert 29 9 (.slice q7 l7 c7)).run Tryd.prog W' = .ok (.string SB) W' ∧ W'.cell? ⟨b7, l7, none⟩ = some (.int .u8 91) ∧ W'.cell? ⟨b7, l7 + 1, none⟩ = some (.int .u8 92) ∧ W'.cell? ⟨b7, l7 + 2, none⟩ = some (.int .u8 93)) := ⟨fun W' hk => by
                    have R := Q9.it.quiet hk
                    have one : ∀ j y, ([91, 92, 93] : List Int)[j]? = some y → W'.cell? ⟨b7, l7 + j, none⟩ = some (.int .u8 y) := fun j y hy => by
                      obtain ⟨b', c', e, hce⟩ := R.w.cell (j := l7 + j) (y := y) (by rw [List.getElem?_append_right (by rw [H7.it.1]; omega), H7.it.1, Nat.add_sub_cancel_left]; exact hy)
                      injection e with e _ _
                      injection e with e
                      injection e with e
                      subst e
                      exact hce
                    exact ⟨str_run (R.w.front H7.it.1) hS, str_run R.rd hS, one 0 _ rfl, one 1 _ rfl, one 2 _ rfl⟩⟩
                  have b3 : (B3 : Int) = (l7 : Int) + 3 := by have := hB3.it; omega
                  have bA0 : (l7 : Int) < (B3 : Int) := by omega
                  have bA1 : (l7 : Int) + 1 < (B3 : Int) := by omega
                  have bA2 : (l7 : Int) + 2 < (B3 : Int) := by omega
                  have bT1 : ((l7 : Int) + 1).toNat = l7 + 1 := by omega
                  have bT2 : ((l7 : Int) + 2).toNat = l7 + 2 := by omega
                  have bG1 : (0 : Int) ≤ (l7 : Int) + 1 := by omega
                  have bG2 : (0 : Int) ≤ (l7 : Int) + 2 := by omega
                  have bN1 : l7 + 1 < B3 := by omega
                  have bN2 : l7 + 2 < B3 := by omega
                  have bM1 : ¬ (B3 : Int) ≤ (l7 : Int) + 1 := by omega
                  have bM2 : ¬ (B3 : Int) ≤ (l7 : Int) + 2 := by omega
                  have bC1 : ((l7 + 1 : Nat) : Int) < (B3 : Int) := by omega
                  have bC2 : ((l7 + 2 : Nat) : Int) < (B3 : Int) := by omega
                  have bW1 : IntKind.i64.wrap ((l7 : Int) + 1) = (l7 : Int) + 1 := by rw [IntKind.wrap_i64]; omega
                  have bW2 : IntKind.i64.wrap ((l7 : Int) + 2) = (l7 : Int) + 2 := by rw [IntKind.wrap_i64]; omega
                  have bD1 : ((0 : Int) ≤ (l7 : Int) + 1 ∧ (l7 : Int) + 1 < (B3 : Int)) = True := by simp only [eq_iff_iff, iff_true]; omega
                  have bD2 : ((0 : Int) ≤ (l7 : Int) + 2 ∧ (l7 : Int) + 2 < (B3 : Int)) = True := by simp only [eq_iff_iff, iff_true]; omega
                  clear b3
                  go_upto_region 23 with fail
                  go_cut [135] (fun yv wx => yv = .bool false ∧ Aside (Tq A w own9 wx (ptr ph) T9 L9 (.slice q9 l9 c9) U9 [(ob, 31, [.int .i64 kd, .int .i64 ky, .int .i64 n, .bool nx, .slice sa B sc]), (mb, 28, [.slice q9 l9 c9])] (.slice q7 l7 c7) ms7 (.slice (some ⟨b7, 0, none⟩) B3 c8) (ms7 ++ [91, 92, 93])))
                  case first =>
                    go_region_held_law (fun W' => (convert 29 9 (.slice (some ⟨b7, 0, none⟩) l7 c8)).run Tryd.prog W' = .ok (.string SB) W' ∧ (convert 29 9 (.slice q7 l7 c7)).run Tryd.prog W' = .ok (.string SB) W' ∧ W'.cell? ⟨b7, l7, none⟩ = some (.int .u8 91) ∧ W'.cell? ⟨b7, l7 + 1, none⟩ = some (.int .u8 92) ∧ W'.cell? ⟨b7, l7 + 2, none⟩ = some (.int .u8 93)) (with_reducible exact SS.it _ KD.it) (fail)
                    all_goals go_wp2_with fail
                    all_goals go_meet
                    all_goals exact ⟨rfl, ⟨Q9.it.quiet KD.it⟩⟩
                  case rest =>
                    obtain ⟨rfl, R12⟩ := hcut
                    clear SS KD Q9
                    have L0 : Aside (∃ l : List Int, l.length = B3 ∧ Tq A w own9 wc (ptr ph) T9 L9 (.slice q9 l9 c9) U9 [(ob, 31, [.int .i64 kd, .int .i64 ky, .int .i64 n, .bool nx, .slice sa B sc]), (mb, 28, [.slice q9 l9 c9])] (.slice q7 l7 c7) ms7 (.slice (some ⟨b7, 0, none⟩) B3 c8) l) := ⟨_, HQ0.it, R12.it⟩
                    have hB3i : (B3 : Int) ≤ 70368744177667 := by have := hB3.it; omega
                    clear R12 bA0 bA1 bA2 bT1 bT2 bG1 bG2 bN1 bN2 bM1 bM2 bC1 bC2 bW1 bW2 bD1 bD2
                    go_upto_region 26 with fail
                    go_loopw [138] (fun iv wr => ∃ (i : Nat), iv = .int .i64 i ∧ i ≤ B3 ∧ Aside (∃ l : List Int, l.length = B3 ∧ Tq A w own9 wr (ptr ph) T9 L9 (.slice q9 l9 c9) U9 [(ob, 31, [.int .i64 kd, .int .i64 ky, .int .i64 n, .bool nx, .slice sa B sc]), (mb, 28, [.slice q9 l9 c9])] (.slice q7 l7 c7) ms7 (.slice (some ⟨b7, 0, none⟩) B3 c8) l)) (fun iv _ => B3 - natOfT iv)
                    case atStart => exact ⟨0, rfl, Nat.zero_le _, L0⟩
                    case round =>
                      clear L0
                      obtain ⟨i, rfl, hi, P⟩ := hrel
                      obtain ⟨l, hl, R⟩ := P.it
                      by_cases hlt3 : i < B3
                      · have hlt' : (i : Int) < B3 := by omega
                        obtain ⟨b', c', v0, ee, fz, ce, R2⟩ := R.put (i := i) (by rw [hl]; exact hlt3) 238
                        rw [hl] at ee
                        injection ee with ee1 ee2 ee3
                        injection ee1 with ee1
                        injection ee1 with ee1
                        subst ee1 ee3
                        have P2 : Aside (∃ l : List Int, l.length = B3 ∧ Tq A w own9 (wr.setCell ⟨b7, i, none⟩ (.int .u8 238)) (ptr ph) T9 L9 (.slice q9 l9 c9) U9 [(ob, 31, [.int .i64 kd, .int .i64 ky, .int .i64 n, .bool nx, .slice sa B sc]), (mb, 28, [.slice q9 l9 c9])] (.slice q7 l7 c7) ms7 (.slice (some ⟨b7, 0, none⟩) B3 c8) l) := ⟨_, by rw [List.length_set]; exact hl, R2⟩
                        clear ee2 R R2 P hl
                        go_wp2_with fail
                        go_roundw
                        case rel => exact ⟨i + 1, by go_num, by omega, P2⟩
                        case measure => simp [natOfT]; omega
                      · have hlt' : ¬ (i : Int) < B3 := by omega
                        have RZ := Aside.mk R.z
                        obtain ⟨k0, k1, k2, k3, k4, k5⟩ := Tz.cells6 RZ
                        have HL9 : Aside (U9.length ≤ 1073741824 ∧ T9 ≤ 70368744177664) := ⟨by have h3 := HE.it.1; have h1 := HE.it.2.2; rw [← h3, mdl_len, ← HM.it, mdl_len] at h1; have := HL.it; have := HE.it.2.1; omega⟩
                        have TE := Aside.mk (tz_tells RZ HE.it.1 HL9.it.1 HL9.it.2 HR.it.2.2.2.1)
                        clear R P hl RZ
                        go_wp2_with (first
                          | (go_at_call 13; refine TE.it.mono ?_; clear TE k0 k1 k2 k3 k4 k5; rintro e w12 ⟨rfl, T12⟩)
                          | fail)
                        go_roundw
                        case rel => exact ⟨j + 1, q9, l9, c9, rfl, hlt, ⟨own9, T9, L9, U9, by have := HE.it.2.1; have := HR.it.2.2.2.2.1; omega, by have := HE.it.2.2; have := HR.it.2.2.2.2.2.1; omega, HE.it.1, T12.it.drop⟩⟩
                        case measure => simp only [natOfT]; omega
          · have p0 : (kd == 0) = false := beq_eq_false_iff_ne.2 (fun e => hk (.inl e))
            have p2 : (kd == 2) = false := beq_eq_false_iff_ne.2 (fun e => hk (.inr e))
            have r0 : (kd != 0) = true := by simp [bne, p0]
            have r2 : (kd != 2) = true := by simp [bne, p2]
            have SC := Aside.mk (step24 (n := n) (nx := nx) own6 wc false (.inl ⟨rfl, ph, rfl⟩) S6.it.z.g S6.it.z.h S6.it.z.d kd HM.it HL.it.1 HR.it.2.2.2.1 HRD.it HR.it.2.1 (by rw [HBB.it]; exact HL.it.2.2) HL.it.2.1)
            clear hk
            go_upto_region 11 with (first
              | (go_at_call 8; refine SC.it.mono ?_; clear SC; rintro e w5 ⟨q5, l5, c5, U5, T5, L5, own5, rfl, E5⟩)
              | fail)
            clear k0 k1 k2 k3 k4 k5
            have T5z := Aside.mk ((S6.it.z.stepd E5.it).box 28 [.slice q5 l5 c5])
            have hnb5 : Aside (mb ≠ w5.heap.size) := ⟨by have := ((S6.it.z.stepd E5.it).x (mb, 28, [.slice q l c']) (by simp)).1.lt; omega⟩
            have HE := Aside.mk (And.intro E5.it.2.2.2.1 (And.intro E5.it.2.2.2.2.1 E5.it.2.2.2.2.2.1))
            clear S6 E5
            generalize w5.alloc (.cells #[.slice q5 l5 c5] 28) = w6 at T5z ⊢
            generalize w5.heap.size = nbx at T5z hnb5 ⊢
            generalize give own5 _ 8 = own7 at T5z
            have m6 := (T5z.it.x (mb, 28, [.slice q l c']) (by simp)).1
            have m60 : w6.cell? ⟨mb, 0, none⟩ = some (.slice q l c') := by rw [m6.cell]; rfl
            have m61 := m6.frozen 0
            have m62 : w6.cell? ⟨nbx, 0, none⟩ = some (.slice q5 l5 c5) := by rw [(T5z.it.x (nbx, 28, [.slice q5 l5 c5]) (by simp)).1.cell]; rfl
            have T6 := Aside.mk (Tz.put T5z.it hnb5.it hob.it (.slice q5 l5 c5))
            clear m6 T5z
            go_upto_region 12 with fail
            clear m60 m61 m62
            generalize w6.setCell ⟨mb, 0, none⟩ (.slice q5 l5 c5) = w7 at T6 ⊢
            rw [show [(Value.slice q l c')].set 0 (.slice q5 l5 c5) = [.slice q5 l5 c5] from rfl] at T6
            go_wp2_with fail
            go_roundw
            case rel => exact ⟨j + 1, q5, l5, c5, rfl, hlt, ⟨own7, T5, L5, U5, by have := HE.it.2.1; have := HR.it.2.2.2.2.1; omega, by have := HE.it.2.2; have := HR.it.2.2.2.2.2.1; omega, HE.it.1, T6.it.drop.drop⟩⟩
            case measure => simp only [natOfT]; omega
  case rest =>
    obtain ⟨q, l, c', J⟩ := hcut
    clear J2
    obtain ⟨own, T, L, U, hT, hL, hm, tz⟩ := J.it
    obtain ⟨un, hun⟩ : ∃ un, U.length = un := ⟨_, rfl⟩
    have hlu : l = un := by
      obtain ⟨_, _, e, _⟩ := tz.d.s
      rw [hun] at e
      injection e
    subst hlu
    have HM := Aside.mk hm
    have HU := Aside.mk hun
    have ok := Aside.mk tz.h.ok
    have HL : Aside (U.length ≤ 1073741824 ∧ T ≤ 4398046511104 ∧ l ≤ 1048576 ∧ T ≤ 70368744177664 ∧ (tk L).length ≤ 4398046511104) := ⟨by
      have h1 : L.length = l := by rw [← hm, mdl_len]; exact hun
      have h2 : (tk L).length = L.length := by simp [tk]
      omega⟩
    have hlu : (l : Int) ≤ 1048576 := by have := HL.it; omega
    generalize l = un at *
    have P0 : Aside (Tk A w own wc (ptr ph) T L (.slice q un c') U [(mb, 28, [.slice q un c'])] (.slice none 0 0) [] (fun _ => []) (.slice none 0 0) []) := ⟨⟨tz, ⟨OwR.zero, fun k v e => by simp at e, OwR.zero, fun k v e => by simp at e⟩, ⟨OwR.zero, fun k v e => by simp at e, OwR.zero, fun k v e => by simp at e⟩, fun _ => Nat.zero_le _⟩⟩
    clear J tz hT hL hm hun
    go_upto_block 4 with fail
    go_cut [13, 14] (fun rv kv wx => ∃ q1 c1 q2 c2 rl rs ks f own, rv = .slice q1 rl c1 ∧ kv = .slice q2 5 c2 ∧ Aside (rs.length = rl ∧ rl ≤ 8388608 ∧ ks.length = 5) ∧ Aside (Tk A w own wx (ptr ph) T L (.slice q un c') U [(mb, 28, [.slice q un c'])] (.slice q1 rl c1) rs f (.slice q2 5 c2) ks))
    case first =>
      go_wp2_with fail
      go_loopw [13, 14, 15] (fun rv kv iv wr => ∃ (k rl : Nat) (q1 : Option Addr) (c1 : Nat) (q2 : Option Addr) (c2 : Nat) (rs ks : List Value) (f : Nat → List Int) (own : Nat → Nat), rv = .slice q1 rl c1 ∧ kv = .slice q2 k c2 ∧ iv = .int .i64 k ∧ k ≤ 5 ∧ Aside (rs.length = rl ∧ rl = k * un ∧ ks.length = k) ∧ Aside (Tk A w own wr (ptr ph) T L (.slice q un c') U [(mb, 28, [.slice q un c'])] (.slice q1 rl c1) rs f (.slice q2 k c2) ks)) (fun _ _ iv _ => 5 - natOfT iv)
      case atStart => exact ⟨0, 0, none, 0, none, 0, [], [], (fun _ => []), own, rfl, rfl, rfl, by omega, ⟨rfl, by omega, rfl⟩, P0⟩
      case round =>
        clear P0
        obtain ⟨k, rl, q1, c1, q2, c2, rs, ks, f, own, rfl, rfl, rfl, hk, HK, P⟩ := hrel
        rcases Nat.eq_or_lt_of_le hk with e | hklt
        · subst e
          go_wp2_with fail
          go_meet
          exact ⟨q1, c1, q2, c2, rl, rs, ks, f, own, rfl, rfl, ⟨HK.it.1, by have := HK.it; have := HL.it; omega, HK.it.2.2⟩, P⟩
        · have hk5 : (k : Int) < 5 := by omega
          have m0 := Tk.cellm P
          have HK0 : Aside (rs.length = rl ∧ rl = k * un + 0) := ⟨HK.it.1, HK.it.2.1⟩
          have HKS := Aside.mk HK.it.2.2
          clear HK
          go_upto_region 39 with fail
          clear m0
          go_loopw [13, 159] (fun rv iv wr => ∃ (i rl : Nat) (q1 : Option Addr) (c1 : Nat) (rs : List Value) (f : Nat → List Int) (own : Nat → Nat), rv = .slice q1 rl c1 ∧ iv = .int .i64 i ∧ i ≤ un ∧ Aside (rs.length = rl ∧ rl = k * un + i) ∧ Aside (Tk A w own wr (ptr ph) T L (.slice q un c') U [(mb, 28, [.slice q un c'])] (.slice q1 rl c1) rs f (.slice q2 k c2) ks)) (fun _ iv _ => un - natOfT iv)
          case atStart => exact ⟨0, rl, q1, c1, rs, f, own, rfl, rfl, Nat.zero_le _, HK0, P⟩
          case round =>
            clear P HK0
            obtain ⟨i, rl, q1, c1, rs, f, own, rfl, rfl, hi, HK, P⟩ := hrel
            rcases Nat.eq_or_lt_of_le hi with e | hilt
            · have hi' : ¬ (i : Int) < (un : Int) := by omega
              have hie := Aside.mk e
              clear e hi
              have KE := Aside.mk (tk_keys P)
              go_upto_region 47 with (first
                | (go_at_call 15; refine KE.it.mono ?_; clear KE; rintro e w5 ⟨q5, l5, c5, own5, rfl, N5⟩)
                | fail)
              clear P
              have P5 := Aside.mk N5.it.k
              have m5 := Tk.cellm P5
              have SA := Aside.mk (tk_same P5 HM.it HL.it.1 N5.it.x)
              go_upto_region 49 with (first
                | (go_at_call 16; refine SA.it.mono ?_; clear SA; rintro e w6 ⟨rfl, K6⟩)
                | fail)
              clear m5 P5
              have N6 := Aside.mk (N5.it.quiet K6.it)
              clear N5 K6
              obtain ⟨a7, c7, w7, own7, run7, P7⟩ := N6.it.push rfl (by rw [HKS.it]; omega)
              rw [HKS.it] at run7 P7
              clear N6
              have hk6 : (k : Int) ≤ 4 := by omega
              go_wp2_with fail
              go_roundw
              case rel => exact ⟨k + 1, rl, q1, c1, a7, c7, rs, ks ++ [.slice q5 l5 c5], f, own7, rfl, rfl, by go_num, by omega, ⟨HK.it.1, by have h1 := HK.it.2; have h2 := hie.it; rw [h1, h2, Nat.add_mul]; omega, by rw [List.length_append, HKS.it]; rfl⟩, P7⟩
              case measure => simp [natOfT]; omega
            · obtain ⟨d, hd⟩ : ∃ d, U[i]? = some d := ⟨_, List.getElem?_eq_getElem (by rw [HU.it]; exact hilt)⟩
              obtain ⟨g, cg, eg, hgl, hrow⟩ := P.it.z.d.row5 hd
              rw [HU.it] at eg hgl
              injection eg with eg1 eg2 eg3
              subst eg1 eg3
              have hzk := Aside.mk (mem_zw ok.it HM.it hd)
              obtain ⟨uq, uc, hdu⟩ := (P.it.z.d.b d (List.mem_of_getElem? hd)).sl
              obtain ⟨dk, du, dr⟩ := d
              simp only at hdu hrow hzk
              subst hdu
              obtain ⟨ul, hul⟩ : ∃ ul, dr.wr.length = ul := ⟨_, rfl⟩
              rw [hul] at hrow
              obtain ⟨y0, y1, y2, y3, y4⟩ := hrow
              have hilt' : (i : Int) < (un : Int) := by omega
              have hcg : (un : Int) ≤ c' := by omega
              have P4 := Aside.mk (P.it.box 45 [.int .i64 dk, .slice uq ul uc, .int .i64 ((dr.rd : Nat) : Int), .bool dr.cl, .bool dr.en])
              have hRL : Aside ((got L dk).rest.length ≤ 4398046511104) := ⟨by rw [Rc.rest_len]; have := (ok.it.got dk).len; have := HL.it.2.1; omega⟩
              clear hd eg2 hgl hul P
              go_upto_region 41 with fail
              clear y0 y1 y2 y3 y4
              generalize wr.alloc (.cells #[.int .i64 dk, .slice uq ul uc, .int .i64 ((dr.rd : Nat) : Int), .bool dr.cl, .bool dr.en] 45) = w4 at P4 ⊢
              generalize wr.heap.size = rb at P4 ⊢
              generalize give own _ 8 = own4 at P4
              have r0 : w4.cell? ⟨rb, 0, none⟩ = some (.int .i64 dk) := by rw [(P4.it.z.x (rb, 45, [.int .i64 dk, .slice uq ul uc, .int .i64 ((dr.rd : Nat) : Int), .bool dr.cl, .bool dr.en]) (by simp)).1.cell]; rfl
              have RH := Aside.mk (tk_rest P4 hzk.it HL.it.2.2.2.1)
              go_upto_region 42 with (first
                | (go_at_call 14; refine RH.it.mono ?_; clear RH; rintro e w5 ⟨q5, l5, c5, own5, rfl, N5⟩)
                | fail)
              clear r0 P4
              obtain ⟨SB, hS⟩ : ∃ SB, Aside (strOf (got L dk).rest = SB) := ⟨_, ⟨rfl⟩⟩
              have KD : Aside (Keeps Nowhere w5 w5.drew) := ⟨(Keeps.refl _ _).drew⟩
              have SS : Aside (∀ W', Keeps Nowhere w5 W' → (convert 29 9 (.slice q5 l5 c5)).run Tryd.prog W' = .ok (.string SB) W' ∧ W'.cell? ⟨mb, 0, none⟩ = some (.slice (some ⟨g, 0, none⟩) un c') ∧ W'.cell? ⟨rb, 0, none⟩ = some (.int .i64 dk)) := ⟨fun W' hk => by
                have R := N5.it.quiet hk
                exact ⟨str_run R.x.rd hS, R.cells2⟩⟩
              have RG : Aside (Calls Tryd.prog 7 #[.agg #[.slice (some ⟨g, 0, none⟩) un c'], .int .i64 dk] w5.drew fun e w' => ∃ q l c, e = .returned (.slice q l c) ∧ (convert 29 9 (.slice q l c)).run Tryd.prog w' = .ok (.string SB) w' ∧ Aside (Keeps Nowhere w5 w')) := ⟨by
                refine (dRest (N5.it.quiet KD.it).k.z.d (by have := HL.it.1; omega) (by rw [HM.it]; exact ok.it) HL.it.2.2.2.1 dk).mono ?_
                rintro e w' ⟨q, c, rfl, R, K⟩
                rw [HM.it] at R ⊢
                exact ⟨q, _, c, rfl, str_run (OwnB.rd R.it) hS, ⟨KD.it.trans K.it⟩⟩⟩
              go_cut [174] (fun yv wx => yv = .bool false ∧ Aside (Keeps Nowhere w5 wx))
              case first =>
                go_region_held_law (fun W' => (convert 29 9 (.slice q5 l5 c5)).run Tryd.prog W' = .ok (.string SB) W' ∧ W'.cell? ⟨mb, 0, none⟩ = some (.slice (some ⟨g, 0, none⟩) un c') ∧ W'.cell? ⟨rb, 0, none⟩ = some (.int .i64 dk)) (first | with_reducible exact SS.it _ KD.it | with_reducible exact SS.it _ K6.it) (first
                  | (go_at_call 7; refine RG.it.mono ?_; rintro e w6 ⟨q6, l6, c6, rfl, CV6, K6⟩)
                  | fail)
                all_goals go_wp2_with fail
                all_goals go_meet
                all_goals exact ⟨rfl, K6⟩
              case rest =>
                obtain ⟨rfl, K6⟩ := hcut
                have N6 := Aside.mk (N5.it.quiet K6.it)
                clear SS RG KD N5 K6
                obtain ⟨a7, c7, w7, own7, run7, P7⟩ := N6.it.push rfl (by have := HK.it; have := HL.it.2.2.1; have : k * un ≤ 5 * 1048576 := Nat.mul_le_mul (by omega) (by omega); omega) hRL.it
                rw [HK.it.1] at run7 P7
                clear N6
                go_wp2_with fail
                go_roundw
                case rel => exact ⟨i + 1, rl + 1, a7, c7, rs ++ [.slice q5 l5 c5], _, own7, rfl, by go_num, by omega, ⟨by rw [List.length_append, HK.it.1]; rfl, by have := HK.it.2; omega⟩, ⟨P7.it.drop⟩⟩
                case measure => simp [natOfT]; omega
    case rest =>
      obtain ⟨q1, c1, q2, c2, rl, rs, ks, f, own, rfl, rfl, HK, P⟩ := hcut
      clear P0
      go_upto_block 8 with fail
      go_cut [] (fun wx => Aside (Tk A w own wx (ptr ph) T L (.slice q un c') U [(mb, 28, [.slice q un c'])] (.slice q1 rl c1) rs f (.slice q2 5 c2) ks))
      case first =>
        go_wp2_with fail
        go_loopw [192] (fun iv wr => ∃ (i : Nat), iv = .int .i64 i ∧ i ≤ 5 ∧ Aside (Tk A w own wr (ptr ph) T L (.slice q un c') U [(mb, 28, [.slice q un c'])] (.slice q1 rl c1) rs f (.slice q2 5 c2) ks)) (fun iv _ => 5 - natOfT iv)
        case atStart => exact ⟨0, rfl, Nat.zero_le _, P⟩
        case round =>
          clear P
          obtain ⟨i, rfl, hi, P⟩ := hrel
          rcases Nat.eq_or_lt_of_le hi with e | hilt
          · subst e
            go_wp2_with fail
            go_meet
            exact P
          · have hi5 : (i : Int) < 5 := by omega
            obtain ⟨v, hv⟩ : ∃ v, ks[i]? = some v := ⟨_, List.getElem?_eq_getElem (by rw [HK.it.2.2]; exact hilt)⟩
            obtain ⟨ab, ac, ea, hac, cv⟩ := rowL_cell P.it.q.all hv
            rw [HK.it.2.2] at ea hac
            injection ea with ea1 ea2 ea3
            subst ea1 ea3
            have m0 := Tk.cellm P
            have X := P.it.q.xs i v hv
            have SA := Aside.mk (tk_same P HM.it HL.it.1 X)
            have hac' : (5 : Int) ≤ c2 := by omega
            clear hv ea2 X hac
            go_wp2_with (first
              | (go_at_call 16; refine SA.it.mono ?_; clear SA m0 cv; rintro e w6 ⟨rfl, K6⟩)
              | fail)
            go_roundw
            case rel => exact ⟨i + 1, by go_num, by omega, ⟨P.it.quiet K6.it⟩⟩
            case measure => simp [natOfT]; omega
      case rest =>
        clear P
        have P := hcut
        clear hcut
        have AP := Aside.mk (apart24 f (fun _ => tk L) P.it.p P.it.q (by have := HK.it; omega) (by have := HK.it; omega) (fun k _ => P.it.b k) (fun _ _ => HL.it.2.2.2.2))
        go_upto_region 58 with (first
          | (go_at_call 17; refine AP.it.mono ?_; clear AP; rintro e w6 ⟨rfl, own6, S6⟩)
          | fail)
        have T6 : Aside (Tz A w own6 w6 (ptr ph) T L (.slice q un c') U [(mb, 28, [.slice q un c'])]) := ⟨P.it.z.sn S6.it (by unfold Iq; omega) (by unfold Iq; omega) (by unfold Iq; omega) (by unfold Iq; omega)⟩
        clear P S6
        have m6 := Tz.cell1 T6
        go_upto_block 10 with fail
        clear m6
        go_cut [] (fun wx => ∃ own, Aside (Tz A w own wx (ptr ph) T L (.slice q un c') U [(mb, 28, [.slice q un c'])]))
        case first =>
          go_wp2_with fail
          go_loopw [208] (fun iv wr => ∃ (i : Nat) (own : Nat → Nat), iv = .int .i64 i ∧ i ≤ un ∧ Aside (Tz A w own wr (ptr ph) T L (.slice q un c') U [(mb, 28, [.slice q un c'])])) (fun iv _ => un - natOfT iv)
          case atStart => exact ⟨0, own6, rfl, Nat.zero_le _, T6⟩
          case round =>
            clear T6
            obtain ⟨i, own, rfl, hi, P⟩ := hrel
            rcases Nat.eq_or_lt_of_le hi with e | hilt
            · have hi' : ¬ (i : Int) < (un : Int) := by omega
              go_wp2_with fail
              go_meet
              exact ⟨own, P⟩
            · obtain ⟨d, hd⟩ : ∃ d, U[i]? = some d := ⟨_, List.getElem?_eq_getElem (by rw [HU.it]; exact hilt)⟩
              obtain ⟨g, cg, eg, hgl, hrow⟩ := P.it.d.row5 hd
              rw [HU.it] at eg hgl
              injection eg with eg1 eg2 eg3
              subst eg1 eg3
              have hzk := Aside.mk (mem_zw ok.it HM.it hd)
              obtain ⟨uq, uc, hdu⟩ := (P.it.d.b d (List.mem_of_getElem? hd)).sl
              obtain ⟨dk, du, dr⟩ := d
              simp only at hdu hrow hzk
              subst hdu
              obtain ⟨ul, hul⟩ : ∃ ul, dr.wr.length = ul := ⟨_, rfl⟩
              rw [hul] at hrow
              obtain ⟨y0, y1, y2, y3, y4⟩ := hrow
              have hilt' : (i : Int) < (un : Int) := by omega
              have hcg : (un : Int) ≤ c' := by omega
              have P4 := Aside.mk (P.it.box 45 [.int .i64 dk, .slice uq ul uc, .int .i64 ((dr.rd : Nat) : Int), .bool dr.cl, .bool dr.en])
              clear hd eg2 hgl hul P
              go_upto_region 61 with fail
              clear y0 y1 y2 y3 y4
              generalize wr.alloc (.cells #[.int .i64 dk, .slice uq ul uc, .int .i64 ((dr.rd : Nat) : Int), .bool dr.cl, .bool dr.en] 45) = w4 at P4 ⊢
              generalize wr.heap.size = rb at P4 ⊢
              generalize give own _ 8 = own4 at P4
              have r0 : w4.cell? ⟨rb, 0, none⟩ = some (.int .i64 dk) := by rw [(P4.it.x (rb, 45, [.int .i64 dk, .slice uq ul uc, .int .i64 ((dr.rd : Nat) : Int), .bool dr.cl, .bool dr.en]) (by simp)).1.cell]; rfl
              have m4 : w4.cell? ⟨mb, 0, none⟩ = some (.slice (some ⟨g, 0, none⟩) un c') := by rw [(P4.it.x (mb, 28, [.slice (some ⟨g, 0, none⟩) un c']) (by simp)).1.cell]; rfl
              have TE := Aside.mk (tz_tells P4 HM.it HL.it.1 HL.it.2.2.2.1 hzk.it)
              clear P4
              go_wp2_with (first
                | (go_at_call 13; refine TE.it.mono ?_; clear TE r0 m4; rintro e w12 ⟨rfl, T12⟩)
                | fail)
              go_roundw
              case rel => exact ⟨i + 1, own4, by go_num, by omega, ⟨T12.it.drop⟩⟩
              case measure => simp [natOfT]; omega
        case rest =>
          obtain ⟨own, P⟩ := hcut
          clear T6
          have Td := Aside.mk (P.it.quiet (Keeps.refl _ _).drew)
          clear P
          go_upto_region 64 with fail
          go_region_held3 (fun W => W.cell? ⟨mb, 0, none⟩ = some (.slice q un c')) (with_reducible exact Tz.cell1 (by with_reducible assumption)) (first
            | (go_at_call 16; with_reducible refine (tz_same T10 HL.it.1 R10).mono ?_; rintro e w11 ⟨rfl, T11⟩)
            | (go_at_call 15; with_reducible refine (tz_keys Td HM.it).mono ?_; rintro e w10 ⟨kv, rfl, R10, T10⟩)
            | fail)
          all_goals go_wp2_with fail
          all_goals go_ret
          all_goals exact ⟨rfl, T11.it.g.g.bel⟩
end Go.Proofs.YtambdgcogldbgaaDoor

