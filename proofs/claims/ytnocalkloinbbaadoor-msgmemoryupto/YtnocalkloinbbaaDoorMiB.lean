/-
  culvertlaw27.MsgMemory: the world behind the feeds
-/
import Derived.Test.YtnocalkloinbbaaDoorMiA
namespace Go.Proofs.YtnocalkloinbbaaDoor
open Go.RowKit

section
variable {A : Nat → Addr} {w0 w w' W : World} {own own' : Nat → Nat} {I : Nat → Prop} {p mb o t k i b n m most : Nat} {F ns l : List Int} {v v' u fv kv kw gv lv : Value} {vs ys ps cs : List Value} {XS : List (List Int)} {f : Nat → List Int} {nn : Nat → Nat}
/-- message t: these bytes -/
abbrev XP (own : Nat → Nat) (w : World) (t : Nat) (v : Value) (l : List Int) : Prop := OwR own (1000 + t) w 5 1 v l.length (bv l)
def rp (n t : Nat) : List Int := List.replicate n ((t : Int) % 256)
def tp (t : Nat) : Int := ((t : Int) + 1) % 256
/-- the reader and the document's beside it, in m's box -/
structure Fq (A : Nat → Addr) (w0 : World) (own : Nat → Nat) (W : World) (p most : Nat) (F : List Int) (fv : Value) (mb : Nat) : Prop where
  L : Lm A w0 own W p most (parseM most F).rest (parseM most F).dead
  box : CellsO own 6 W mb 31 [.int .i64 most, fv]
  fed : RdP own 7 W fv F
theorem Fq.sn (h : Fq A w0 own W p most F fv mb) (s : Sn I own W own' w') (hi : ∀ k, k ≤ 7 → ¬ I k) : Fq A w0 own' w' p most F fv mb :=
  ⟨h.L.sn s (hi _ (by decide)) (hi _ (by decide)) (hi _ (by decide)), h.box.sn s (hi _ (by decide)), h.fed.sx s.sx (hi _ (by decide))⟩
theorem Fq.quiet (h : Fq A w0 own W p most F fv mb) (k : Keeps Nowhere W w') : Fq A w0 own w' p most F fv mb := h.sn (I := fun _ => False) (Sn.same k) (fun _ _ x => x)
/-- the world behind the feeds -/
structure Fe (A : Nat → Addr) (w0 : World) (own : Nat → Nat) (W : World) (p most : Nat) (F : List Int) (fv : Value) (mb : Nat) (kv : Value) (ps : List Value) (f : Nat → List Int) (nn : Nat → Nat) (gv : Value) (ys : List Value) : Prop where
  q : Fq A w0 own W p most F fv mb
  k : OwR own 20 W 29 1 kv ps.length ps
  x : ∀ t v, ps[t]? = some v → XP own W t v (f t)
  gr : OwR own 97 W 29 1 gv ys.length ys
  gs : ∀ t v, ys[t]? = some v → XP own W t v (rp (nn t) t ++ [tp t])
theorem Rows.ats {d : Nat} {vs : List Value} {rs : List (List Int)} (h : Rows own W d vs rs) {k : Nat} {v : Value} (hk : vs[k]? = some v) : ∃ r, rs[k]? = some r ∧ RowB own (d + k) W v r := by
  obtain ⟨r, hr⟩ : ∃ r, rs[k]? = some r := ⟨_, List.getElem?_eq_getElem (by rw [← h.len]; exact (List.getElem?_eq_some_iff.1 hk).1)⟩
  obtain ⟨u, hu, x⟩ := h.at hr
  rw [hk] at hu
  injection hu with hu
  subst hu
  exact ⟨r, hr, x⟩
/-- from the feeds to the phases -/
theorem Fe.begin (h : Mv A w0 own W p most F mb fv fv F kv kw XS) : ∃ ps, ps.length = XS.length ∧ Fe A w0 own W p most F fv mb kv ps (fun t => (XS[t]?).getD []) (fun t => ((XS[t]?).getD []).length) (.slice none 0 0) [] := by
  obtain ⟨vs, h1, h2, h3, h4⟩ := h.k
  refine ⟨vs, h3.len, ⟨h.L, h.box, h.fed⟩, ⟨h1, fun b hb => ⟨h2 b hb, owns_lt h1 b hb⟩⟩, fun t v hv => ?_, OwR.zero, fun t v e => by simp at e⟩
  obtain ⟨r, hr, x⟩ := h3.ats hv
  simp only [hr, Option.getD_some]
  exact ⟨owns_any x.1, fun b hb => ⟨x.2 b hb, owns_lt x.1 b hb⟩⟩
theorem Fe.quiet (h : Fe A w0 own W p most F fv mb kv ps f nn gv ys) (hk : Keeps Nowhere W w') : Fe A w0 own w' p most F fv mb kv ps f nn gv ys :=
  have s : Sn (fun _ => False) own W own w' := Sn.same hk
  ⟨h.q.quiet hk, h.k.sn s (fun x => x), fun t v e => (h.x t v e).sn s (fun x => x), h.gr.sn s (fun x => x), fun t v e => (h.gs t v e).sn s (fun x => x)⟩
/-- message t has changed -/
theorem Fe.at (h : Fe A w0 own W p most F fv mb kv ps f nn gv ys) (s : Sn (fun q => q = 98 ∨ q = 1000 + t) own W own' w') (ht : ys.length ≤ t) (hv : ps[t]? = some v) (hX : XP own' w' t v l) : Fe A w0 own' w' p most F fv mb kv ps (fun j => if j = t then l else f j) nn gv ys := by
  refine ⟨h.q.sn s (by omega), h.k.sn s (by omega), fun j u e => ?_, h.gr.sn s (by omega), fun j u e => ?_⟩
  · by_cases hj : j = t
    · subst hj
      rw [hv] at e
      injection e with e
      subst e
      rw [if_pos rfl]
      exact hX
    · rw [if_neg hj]
      exact (h.x j u e).sn s (by omega)
  · have := (List.getElem?_eq_some_iff.1 e).1
    exact (h.gs j u e).sn s (by omega)
theorem Fe.more (h : Fe A w0 own W p most F fv mb kv ps f nn gv ys) {g : Nat → List Int} (hg : ∀ t, t < ps.length → f t = g t) : Fe A w0 own W p most F fv mb kv ps g nn gv ys := ⟨h.q, h.k, fun t v e => by rw [← hg t (List.getElem?_eq_some_iff.1 e).1]; exact h.x t v e, h.gr, h.gs⟩
theorem XP.shape (h : XP own W t v l) : ∃ a c, v = .slice a l.length c ∧ l.length ≤ c := by
  rcases h.1.2 with ⟨rfl, h0⟩ | ⟨g, cap, cur, rfl, _, _, h1, _⟩
  · exact ⟨none, 0, by rw [h0], by omega⟩
  · exact ⟨_, _, rfl, h1⟩
theorem XP.cell (h : XP own W t v l) {j : Nat} {y : Int} (hj : l[j]? = some y) : ∃ b c, v = .slice (some ⟨b, 0, none⟩) l.length c ∧ W.cell? ⟨b, j, none⟩ = some (.int .u8 y) := by
  rcases h.1.2 with ⟨_, h0⟩ | ⟨g, cap, cur, rfl, _⟩
  · rw [List.eq_nil_of_length_eq_zero h0] at hj
    simp at hj
  · refine ⟨g, cap, rfl, ?_⟩
    have := h.1.cells rfl j (.int .u8 y) (by unfold bv; rw [List.getElem?_map, hj]; rfl)
    rwa [add_none, Nat.zero_add] at this
theorem XP.put (h : XP own W t v l) {i : Nat} (hi : i < l.length) (y : Int) : ∃ b c u0, v = .slice (some ⟨b, 0, none⟩) l.length c ∧ W.frozen? ⟨b, i, none⟩ = false ∧ W.cell? ⟨b, i, none⟩ = some u0 ∧ XP own (W.setCell ⟨b, i, none⟩ (.int .u8 y)) t v (l.set i y) ∧ Sn (fun q => q = 98 ∨ q = 1000 + t) own W own (W.setCell ⟨b, i, none⟩ (.int .u8 y)) := by
  obtain ⟨b, c, e1, e2⟩ := h.cell (List.getElem?_eq_getElem hi)
  obtain ⟨ho, hb⟩ := h
  subst e1
  have K : Keeps (fun q => own q = 98 ∨ own q = 1000 + t) W (W.setCell ⟨b, i, none⟩ (.int .u8 y)) := (Keeps.refl _ _).setCell _ _ (fun _ => .inr (hb b rfl).1)
  have o3 := owns_setCell ho i (by omega) (.int .u8 y)
  refine ⟨b, c, _, rfl, owns_frozen ho i, e2, ⟨?_, fun q hq => ⟨(hb q hq).1, Nat.lt_of_lt_of_le (hb q hq).2 K.size⟩⟩, ⟨fun _ _ => rfl, K⟩⟩
  unfold bv
  rw [List.length_set, List.map_set]
  exact o3
def partP (y : Int) (i : Nat) (L : List Int) : List Int := List.replicate i y ++ L.drop i
theorem partP_zero (y : Int) (L : List Int) : partP y 0 L = L := by simp [partP]
theorem partP_len {y : Int} {i : Nat} {L : List Int} (h : i ≤ L.length) : (partP y i L).length = L.length := by simp [partP]; omega
theorem partP_all {y : Int} {L : List Int} : partP y L.length L = List.replicate L.length y := by simp [partP]
theorem partP_step {y : Int} {i : Nat} {L : List Int} (h : i < L.length) : (partP y i L).set i y = partP y (i + 1) L := by
  have h1 : (List.replicate i y).length = i := by simp
  unfold partP
  rw [List.set_append_right _ _ (by omega), h1, Nat.sub_self, List.drop_eq_getElem_cons h, List.set_cons_zero]
  rw [List.replicate_succ', List.append_assoc]
  rfl
theorem rp_at {n i : Nat} (h : i < n) : (rp n t)[i]? = some ((t : Int) % 256) := by simp [rp, h]
theorem rp_len (n t : Nat) : (rp n t).length = n := by simp [rp]
def fP (f : Nat → List Int) (i j q : Nat) : List Int := if q < i then rp (f q).length q else if q = i then partP ((i : Int) % 256) j (f q) else f q
theorem fP_start (f : Nat → List Int) (q : Nat) : fP f 0 0 q = f q := by
  unfold fP
  rw [if_neg (by omega)]
  split
  · rename_i h; subst h; exact partP_zero _ _
  · rfl
theorem fP_at (f : Nat → List Int) (i j : Nat) : fP f i j i = partP ((i : Int) % 256) j (f i) := by unfold fP; rw [if_neg (by omega), if_pos rfl]
theorem fP_len (f : Nat → List Int) {i j q : Nat} (h : j ≤ (f i).length) : (fP f i j q).length = (f q).length := by
  unfold fP
  split
  · exact rp_len _ _
  split
  · rename_i h; subst h; exact partP_len (by assumption)
  · rfl
theorem fP_step (f : Nat → List Int) (i j q : Nat) : (if q = i then partP ((i : Int) % 256) (j + 1) (f i) else fP f i j q) = fP f i (j + 1) q := by
  unfold fP
  by_cases h : q = i
  · subst h; simp
  · simp [h]
theorem fP_all (f : Nat → List Int) (i q : Nat) : fP f i (f i).length q = fP f (i + 1) 0 q := by
  unfold fP
  by_cases h : q < i
  · rw [if_pos h, if_pos (by omega)]
  · rw [if_neg h]
    by_cases h2 : q = i
    · subst h2; rw [if_pos rfl, if_pos (by omega), partP_all]; rfl
    · rw [if_neg h2, if_neg (by omega)]
      by_cases h3 : q = i + 1
      · subst h3; rw [if_pos rfl, partP_zero]
      · rw [if_neg h3]
theorem fP_end (f : Nat → List Int) {i q : Nat} (h : q < i) : fP f i 0 q = rp (f q).length q := by unfold fP; rw [if_pos h]
theorem reads_one {e : TypeId} (W : World) (u : Value) : ReadsK 1 (W.alloc (.cells #[u] e)) (.slice (some ⟨W.heap.size, 0, none⟩) 1 1) 1 [u] :=
  ⟨rfl, _, 1, rfl, Nat.le_refl _, by decide, fun h => (by cases h), fun j y hj => ⟨_, _, rfl, by
    cases j with
    | zero => simp only [List.getElem?_cons_zero, Option.some.injEq] at hj; subst hj; exact (Cells.new W e [u]).cell 0
    | succ j => simp at hj⟩⟩
theorem Fe.gpush (h : Fe A w0 own W p most F fv mb kv ps f nn gv ys) (hX : XP own W ys.length v (rp (nn ys.length) ys.length ++ [tp ys.length])) (hv : v.oneCell' = true) (hb : ys.length ≤ 4398046511104) : ∃ (a : Option Addr) (c : Nat) (w' : World) (own' : Nat → Nat), (∀ ty, (Builtin.append_ #[22, 22] ty #[gv, .slice (some ⟨W.heap.size, 0, none⟩) 1 1]).run Tryd.prog (W.alloc (.cells #[v] 29)) = .ok (.slice a (ys.length + 1) c) w') ∧ Aside (Fe A w0 own' w' p most F fv mb kv ps f nn (.slice a (ys.length + 1) c) (ys ++ [v])) := by
  obtain ⟨i, hi, hz0, hz1, hz2⟩ := info_parts linfo
  have K : Keeps Nowhere W (W.alloc (.cells #[v] 29)) := (Keeps.refl _ _).alloc _
  obtain ⟨u, w', run, o', sp⟩ := run_appendS (P := Tryd.prog) (W.alloc (.cells #[v] 29)) 22 29 i _ 1 24 Tryd.underlying22 hi hz0 hz1 hz2 rfl (by decide) gv ys.length ys (owns_later h.gr.1 K (fun _ _ x => x)) (.slice (some ⟨W.heap.size, 0, none⟩) 1 1) 1 [v] (by decide) (reads_one W v) (by simp [hv]) (by omega) (by unfold maxLen; omega)
  obtain ⟨a, c, rfl⟩ := owns_val o'
  obtain ⟨a1, s⟩ := h.gr.app K o' sp
  refine ⟨a, c, w', _, run, ⟨h.q.sn s (by omega), h.k.sn s (by decide), fun j u e => (h.x j u e).sn s (by omega), by rw [List.length_append]; exact a1, fun j u e => ?_⟩⟩
  rcases Nat.lt_trichotomy j ys.length with hj | hj | hj
  · rw [List.getElem?_append_left hj] at e
    exact (h.gs j u e).sn s (by omega)
  · subst hj
    rw [List.getElem?_append_right (Nat.le_refl _)] at e
    simp at e
    subst e
    exact hX.sn s (by omega)
  · rw [List.getElem?_append_right (by omega), List.getElem?_eq_none (by simp; omega)] at e
    cases e
abbrev Gp (own : Nat → Nat) (w : World) (v : Value) (l : List Int) (gv : Value) (j : Nat) : Prop := Grows own w 5 1 v l.length (bv l) 98 gv j (List.replicate j (.int .u8 119))
theorem Gp.run {j : Nat} (G : Gp own W v l gv j) (X : XP own W t v l) (hb : l.length ≤ 4398046511104) (hj : j ≤ 64) : ∃ (a : Option Addr) (c : Nat) (w' : World) (own' : Nat → Nat), (∀ ty, (Builtin.append_ #[29, 29] ty #[gv, .slice (some ⟨W.heap.size, 0, none⟩) 1 1]).run Tryd.prog (W.alloc (.cells #[.int .u8 119] 5)) = .ok (.slice a (l.length + (j + 1)) c) w') ∧ Aside (XP own' w' t v l) ∧ Aside (Gp own' w' v l (.slice a (l.length + (j + 1)) c) (j + 1)) ∧ Aside (Sn (fun q => q = 98 ∨ q = 1000 + t) own W own' w') := by
  obtain ⟨i, hi, hz0, hz1, hz2⟩ := info_parts u8info
  have K : Keeps Nowhere W (W.alloc (.cells #[.int .u8 119] 5)) := (Keeps.refl _ _).alloc _
  obtain ⟨u, w', run, o', sp⟩ := run_appendS (P := Tryd.prog) (W.alloc (.cells #[.int .u8 119] 5)) 29 5 i _ 1 1 Tryd.underlying29 hi hz0 hz1 hz2 rfl (by decide) gv (l.length + j) _ (owns_later G.1 K (fun _ _ x => x)) (.slice (some ⟨W.heap.size, 0, none⟩) 1 1) 1 [.int .u8 119] (by decide) (reads_one W _) (by simp [Value.oneCell']) (by omega) (by unfold maxLen; omega)
  obtain ⟨a, c, rfl⟩ := owns_val o'
  obtain ⟨X2, G2, S2⟩ := Grows.app X (by simp [bv]) G (by omega) K o' sp
  rw [← List.replicate_succ'] at G2
  exact ⟨a, c, w', _, run, ⟨X2⟩, ⟨G2⟩, ⟨S2⟩⟩
theorem XP.appRun (X : XP own W t v l) (y : Int) (hb : l.length ≤ 4398046511104) : ∃ (a : Option Addr) (c : Nat) (w' : World) (own' : Nat → Nat), (∀ ty, (Builtin.append_ #[29, 29] ty #[v, .slice (some ⟨W.heap.size, 0, none⟩) 1 1]).run Tryd.prog (W.alloc (.cells #[.int .u8 y] 5)) = .ok (.slice a (l.length + 1) c) w') ∧ Aside (XP own' w' t v l) ∧ Aside (XP own' w' t (.slice a (l.length + 1) c) (l ++ [y])) ∧ Aside (Sn (fun q => q = 98 ∨ q = 1000 + t) own W own' w') := by
  obtain ⟨i, hi, hz0, hz1, hz2⟩ := info_parts u8info
  have K : Keeps Nowhere W (W.alloc (.cells #[.int .u8 y] 5)) := (Keeps.refl _ _).alloc _
  obtain ⟨u, w', run, o', sp⟩ := run_appendS (P := Tryd.prog) (W.alloc (.cells #[.int .u8 y] 5)) 29 5 i _ 1 1 Tryd.underlying29 hi hz0 hz1 hz2 rfl (by decide) v l.length _ (owns_later X.1 K (fun _ _ x => x)) (.slice (some ⟨W.heap.size, 0, none⟩) 1 1) 1 [.int .u8 y] (by decide) (reads_one W _) (by simp [Value.oneCell']) (by omega) (by unfold maxLen; omega)
  obtain ⟨a, c, rfl⟩ := owns_val o'
  obtain ⟨a1, s1⟩ := X.app K o' sp
  have a2 := X.stays (by simp [bv]) K o' sp
  refine ⟨a, c, w', _, run, ⟨a2⟩, ⟨?_⟩, ⟨s1.mono (fun _ e => .inr e)⟩⟩
  unfold XP bv
  rw [List.length_append, List.map_append]
  exact a1
theorem rowV_cell {e : TypeId} {o : Nat} (h : OwR own o W e 1 lv vs.length vs) (hv : vs[k]? = some v) : ∃ b c, lv = .slice (some ⟨b, 0, none⟩) vs.length c ∧ vs.length ≤ c ∧ W.cell? ⟨b, k, none⟩ = some v := by
  have hk := (List.getElem?_eq_some_iff.1 hv).1
  rcases id h.1.2 with ⟨_, h0⟩ | ⟨g, cap, cur, rfl, _, _, h1, _⟩
  · omega
  · have := h.1.cells rfl k v hv
    rw [add_none, Nat.zero_add] at this
    exact ⟨g, cap, rfl, h1, this⟩
theorem Fq.cells (h : Aside (Fq A w0 own W p most F fv mb)) : W.cell? ⟨mb, 0, none⟩ = some (.int .i64 most) ∧ W.cell? ⟨mb, 1, none⟩ = some fv := ⟨by rw [h.it.box.1.cell]; rfl, by rw [h.it.box.1.cell]; rfl⟩
end
end Go.Proofs.YtnocalkloinbbaaDoor
