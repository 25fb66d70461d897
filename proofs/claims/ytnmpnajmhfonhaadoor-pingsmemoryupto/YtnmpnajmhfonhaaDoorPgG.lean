/-
  PingsMemory's world: the Pings, the document's, all the lists, what was grown out of them
-/
import Derived.Test.YtnmpnajmhfonhaaDoorPgW
import Derived.Test.YtnmpnajmhfonhaaDoorRowsS
import Derived.Deep.CutBlock
import Derived.Deep.DeepCutAuto
namespace Go.Proofs.YtnmpnajmhfonhaaDoor
open Go.RowKit

variable {A : Nat → Addr} {w w' w0 W : World} {own own' : Nat → Nat} {l L : List Nat} {x v v' v2 v3 v4 av gv : Value} {vs ys : List Value} {f : Nat → List Nat} {nn : Nat → Nat} {m : Pm} {wb k : Nat} {I : Nat → Prop}
/-- list k: these numbers -/
abbrev XA (own : Nat → Nat) (w : World) (k : Nat) (v : Value) (l : List Nat) : Prop := OwR own (100 + k) w 37 1 v l.length (l.map e32)
def r90 (n k : Nat) : List Nat := List.replicate n (900000 + k)
def t70 (k : Nat) : Nat := 700000 + k
structure Lm (A : Nat → Addr) (w0 : World) (x : Value) (m : Pm) (v2 v3 v4 : Value) (wb : Nat) (av : Value) (vs : List Value) (f : Nat → List Nat) (nn : Nat → Nat) (gv : Value) (ys : List Value) (own : Nat → Nat) (W : World) : Prop where
  pw : Pw A w0 own 99 W x m v2 v3 v4 wb (rcel m v2 v3 v4)
  all : OwR own 5 W 29 1 av vs.length vs
  xs : ∀ k v, vs[k]? = some v → XA own W k v (f k)
  gr : OwR own 7 W 29 1 gv ys.length ys
  gs : ∀ k v, ys[k]? = some v → XA own W k v (r90 (nn k) k ++ [t70 k])
theorem Lm.sn (h : Lm A w0 x m v2 v3 v4 wb av vs f nn gv ys own w) (s : Sn I own w own' w') (h0 : ∀ j, j ≤ 9 → ¬ I j) (h99 : ¬ I 99) (hx : ∀ k, ¬ I (100 + k)) : Lm A w0 x m v2 v3 v4 wb av vs f nn gv ys own' w' :=
  ⟨h.pw.sn s (h0 0 (by decide)) (h0 1 (by decide)) h99 (h0 8 (by decide)) (h0 9 (by decide)), h.all.sn s (h0 5 (by decide)), fun k v e => (h.xs k v e).sn s (hx k), h.gr.sn s (h0 7 (by decide)), fun k v e => (h.gs k v e).sn s (hx k)⟩
theorem Lm.idle (h : Lm A w0 x m v2 v3 v4 wb av vs f nn gv ys own w) (s : Sn (fun _ => False) own w own' w') : Lm A w0 x m v2 v3 v4 wb av vs f nn gv ys own' w' := h.sn s (fun _ _ x => x) (fun x => x) (fun _ x => x)
theorem Lm.quiet (h : Lm A w0 x m v2 v3 v4 wb av vs f nn gv ys own w) (k : Keeps Nowhere w w') : Lm A w0 x m v2 v3 v4 wb av vs f nn gv ys own w' := h.idle (Sn.same k)
/-- list k, and the odd rows (98), have changed -/
theorem Lm.at (h : Lm A w0 x m v2 v3 v4 wb av vs f nn gv ys own w) (s : Sn (fun q => q = 98 ∨ q = 100 + k) own w own' w') (hk : ys.length ≤ k) (hv : vs[k]? = some v) (hX : XA own' w' k v l) : Lm A w0 x m v2 v3 v4 wb av vs (fun j => if j = k then l else f j) nn gv ys own' w' := by
  refine ⟨h.pw.sn s (by omega) (by omega) (by omega) (by omega) (by omega), h.all.sn s (by omega), fun j u e => ?_, h.gr.sn s (by omega), fun j u e => ?_⟩
  · by_cases hj : j = k
    · subst hj
      rw [hv] at e
      injection e with e
      subst e
      rw [if_pos rfl]
      exact hX
    · rw [if_neg hj]
      exact (h.xs j u e).sn s (by omega)
  · have := (List.getElem?_eq_some_iff.1 e).1
    exact (h.gs j u e).sn s (by omega)
/-- one list more -/
theorem Lm.push (h : Lm A w0 x m v2 v3 v4 wb av vs f nn gv ys own w) (hX : XA own w vs.length v l) (hk : Keeps Nowhere w W) (ho : w'.ownsRow 0 29 1 v' (vs.length + 1) (vs ++ [v])) (sp : Split av v' 1 W w') : Lm A w0 x m v2 v3 v4 wb v' (vs ++ [v]) (fun j => if j = vs.length then l else f j) nn gv ys (give own w.heap.size 5) w' := by
  obtain ⟨a, s⟩ := h.all.app hk ho sp
  refine ⟨h.pw.sn s (by decide) (by decide) (by decide) (by decide) (by decide), ?_, fun j u e => ?_, h.gr.sn s (by decide), fun j u e => (h.gs j u e).sn s (by omega)⟩
  · rw [List.length_append]; exact a
  · rcases Nat.lt_trichotomy j vs.length with hj | hj | hj
    · rw [List.getElem?_append_left hj] at e
      rw [if_neg (by omega)]
      exact (h.xs j u e).sn s (by omega)
    · subst hj
      rw [List.getElem?_append_right (Nat.le_refl _)] at e
      simp at e
      subst e
      rw [if_pos rfl]
      exact hX.sn s (by omega)
    · rw [List.getElem?_append_right (by omega), List.getElem?_eq_none (by simp; omega)] at e
      cases e
theorem Lm.gpush (h : Lm A w0 x m v2 v3 v4 wb av vs f nn gv ys own w) (hX : XA own w ys.length v (r90 (nn ys.length) ys.length ++ [t70 ys.length])) (hk : Keeps Nowhere w W) (ho : w'.ownsRow 0 29 1 v' (ys.length + 1) (ys ++ [v])) (sp : Split gv v' 1 W w') : Lm A w0 x m v2 v3 v4 wb av vs f nn v' (ys ++ [v]) (give own w.heap.size 7) w' := by
  obtain ⟨a, s⟩ := h.gr.app hk ho sp
  refine ⟨h.pw.sn s (by decide) (by decide) (by decide) (by decide) (by decide), h.all.sn s (by decide), fun j u e => (h.xs j u e).sn s (by omega), ?_, fun j u e => ?_⟩
  · rw [List.length_append]; exact a
  · rcases Nat.lt_trichotomy j ys.length with hj | hj | hj
    · rw [List.getElem?_append_left hj] at e
      exact (h.gs j u e).sn s (by omega)
    · subst hj
      rw [List.getElem?_append_right (Nat.le_refl _)] at e
      simp at e
      subst e
      exact hX.sn s (by omega)
    · rw [List.getElem?_append_right (by omega), List.getElem?_eq_none (by simp; omega)] at e
      cases e
theorem Lm.more (h : Lm A w0 x m v2 v3 v4 wb av vs f nn gv ys own w) {g : Nat → List Nat} (hg : ∀ k, k < vs.length → f k = g k) : Lm A w0 x m v2 v3 v4 wb av vs g nn gv ys own w := ⟨h.pw, h.all, fun k v e => by rw [← hg k (List.getElem?_eq_some_iff.1 e).1]; exact h.xs k v e, h.gr, h.gs⟩
theorem Lm.lens (h : Lm A w0 x m v2 v3 v4 wb av vs f nn gv [] own w) (n2 : Nat → Nat) : Lm A w0 x m v2 v3 v4 wb av vs f n2 gv [] own w := ⟨h.pw, h.all, h.xs, h.gr, fun k v e => by simp at e⟩
theorem rowS_cell {vs : List Value} {o : Nat} (h : OwR own o w 29 1 av vs.length vs) {v : Value} (hv : vs[k]? = some v) : ∃ b c, av = .slice (some ⟨b, 0, none⟩) vs.length c ∧ vs.length ≤ c ∧ w.cell? ⟨b, k, none⟩ = some v := by
  rcases h.1.2 with ⟨a, y⟩ | ⟨g, cap, cur, rfl, _, _, h1, _⟩
  · rw [List.eq_nil_of_length_eq_zero y] at hv; simp at hv
  · have := h.1.cells rfl k v hv
    rw [add_none, Nat.zero_add] at this
    exact ⟨g, cap, rfl, h1, this⟩
theorem XA.shape (h : XA own w k v l) : ∃ a c, v = .slice a l.length c ∧ l.length ≤ c := by
  obtain ⟨a, c, e, h1, _⟩ := ReadsK.at1 (owns_readsK h.1)
  exact ⟨a, c, e, h1⟩
theorem XA.cell (h : XA own w k v l) {j y : Nat} (hj : l[j]? = some y) : ∃ b c, v = .slice (some ⟨b, 0, none⟩) l.length c ∧ w.cell? ⟨b, j, none⟩ = some (.int .u32 (y : Nat)) := by
  rcases h.1.2 with ⟨_, h0⟩ | ⟨g, cap, cur, rfl, _⟩
  · rw [List.eq_nil_of_length_eq_zero h0] at hj
    simp at hj
  · refine ⟨g, cap, rfl, ?_⟩
    have := h.1.cells rfl j (e32 y) (by rw [List.getElem?_map, hj]; rfl)
    rwa [add_none, Nat.zero_add] at this
/-- a number of list k is written over -/
theorem XA.put (h : XA own w k v l) {i : Nat} (hi : i < l.length) (t : Nat) : ∃ b c u0, v = .slice (some ⟨b, 0, none⟩) l.length c ∧ w.frozen? ⟨b, i, none⟩ = false ∧ w.cell? ⟨b, i, none⟩ = some u0 ∧ XA own (w.setCell ⟨b, i, none⟩ (e32 t)) k v (l.set i t) ∧ Sn (fun q => q = 98 ∨ q = 100 + k) own w own (w.setCell ⟨b, i, none⟩ (e32 t)) := by
  obtain ⟨b, c, e1, e2⟩ := h.cell (List.getElem?_eq_getElem hi)
  obtain ⟨ho, hb⟩ := h
  subst e1
  have K : Keeps (fun q => own q = 98 ∨ own q = 100 + k) w (w.setCell ⟨b, i, none⟩ (e32 t)) := (Keeps.refl _ _).setCell _ _ (fun _ => .inr (hb b rfl).1)
  have o3 := owns_setCell ho i (by omega) (e32 t)
  refine ⟨b, c, _, rfl, owns_frozen ho i, e2, ⟨?_, fun q hq => ⟨(hb q hq).1, Nat.lt_of_lt_of_le (hb q hq).2 K.size⟩⟩, ⟨fun _ _ => rfl, K⟩⟩
  rw [List.length_set, List.map_set]
  exact o3
/-- the first i numbers written over -/
def part (k i : Nat) (L : List Nat) : List Nat := r90 i k ++ L.drop i
theorem part_zero (k : Nat) : part k 0 L = L := by simp [part, r90]
theorem part_len {i : Nat} (h : i ≤ L.length) : (part k i L).length = L.length := by simp [part, r90]; omega
theorem part_all : part k L.length L = r90 L.length k := by simp [part]
theorem part_step {i : Nat} (h : i < L.length) : (part k i L).set i (900000 + k) = part k (i + 1) L := by
  have h1 : (r90 i k).length = i := by simp [r90]
  unfold part
  rw [List.set_append_right _ _ (by omega), h1, Nat.sub_self, List.drop_eq_getElem_cons h, List.set_cons_zero]
  unfold r90
  rw [List.replicate_succ', List.append_assoc]
  rfl
theorem r90_at {n i : Nat} (h : i < n) : (r90 n k)[i]? = some (900000 + k) := by simp [r90, h]
theorem r90_len (n k : Nat) : (r90 n k).length = n := by simp [r90]
/-- the k-th list is being written over, those ahead of it are -/
def f5 (f : Nat → List Nat) (i j q : Nat) : List Nat := if q < i then r90 (f q).length q else if q = i then part i j (f q) else f q
theorem f5_start (f : Nat → List Nat) (q : Nat) : f5 f 0 0 q = f q := by
  unfold f5
  rw [if_neg (by omega)]
  split
  · rename_i h; subst h; exact part_zero 0
  · rfl
theorem f5_at (f : Nat → List Nat) (i j : Nat) : f5 f i j i = part i j (f i) := by unfold f5; rw [if_neg (by omega), if_pos rfl]
theorem f5_len (f : Nat → List Nat) {i j q : Nat} (h : j ≤ (f i).length) : (f5 f i j q).length = (f q).length := by
  unfold f5
  split
  · exact r90_len _ _
  split
  · rename_i h; subst h; exact part_len (by assumption)
  · rfl
theorem f5_step (f : Nat → List Nat) (i j q : Nat) : (if q = i then part i (j + 1) (f i) else f5 f i j q) = f5 f i (j + 1) q := by
  unfold f5
  by_cases h : q = i
  · subst h; simp
  · simp [h]
theorem f5_all (f : Nat → List Nat) (i q : Nat) : f5 f i (f i).length q = f5 f (i + 1) 0 q := by
  unfold f5
  by_cases h : q < i
  · rw [if_pos h, if_pos (by omega)]
  · rw [if_neg h]
    by_cases h2 : q = i
    · subst h2; rw [if_pos rfl, if_pos (by omega), part_all]
    · rw [if_neg h2, if_neg (by omega)]
      by_cases h3 : q = i + 1
      · subst h3; rw [if_pos rfl, part_zero]
      · rw [if_neg h3]
theorem f5_end (f : Nat → List Nat) {i q : Nat} (h : q < i) : f5 f i 0 q = r90 (f q).length q := by unfold f5; rw [if_pos h]
theorem infoS : (Tryd.prog.info? 29).map (fun i => (i.zero, i.size, i.bytes)) = some (some (.slice none 0 0), 1, 24) := by kernel_rfl
theorem u32_small {k c : Nat} (hk : k ≤ 1048576) (hc : c ≤ 1000000) : IntKind.u32.wrap ((c : Int) + (k : Int)) = ((c + k : Nat) : Int) := by
  simp [IntKind.wrap, IntKind.bits, IntKind.signed]
  omega
theorem reads_one {e : TypeId} (W : World) (u : Value) : ReadsK 1 (W.alloc (.cells #[u] e)) (.slice (some ⟨W.heap.size, 0, none⟩) 1 1) 1 [u] :=
  ⟨rfl, _, 1, rfl, Nat.le_refl _, by decide, fun h => (by cases h), fun j y hj => ⟨_, _, rfl, by
    cases j with
    | zero => simp only [List.getElem?_cons_zero, Option.some.injEq] at hj; subst hj; exact (Cells.new W e [u]).cell 0
    | succ j => simp at hj⟩⟩

/-- whoever owned 99's blocks -/
def relab (own : Nat → Nat) (k b : Nat) : Nat := if own b = 99 then 100 + k else own b
theorem relab_keep (own : Nat → Nat) (k : Nat) {b i : Nat} (h : own b = i) (hi : i ≠ 99) : relab own k b = i := by unfold relab; rw [if_neg (by omega)]; exact h
theorem panswered2 (h : PgV own 1 99 w x m) (k : Nat) : Calls Tryd.prog 16 #[x] w fun e w' => ∃ (a : Option Addr) (c : Nat), e = .returned (.slice a m.an.length c) ∧ Aside (XA (relab own k) w' k (.slice a m.an.length c) m.an) ∧ Aside (PgV (relab own k) 1 99 w' x m.told) ∧ Aside (Sn (fun q => q = 1) own w own w') := by
  rcases h with ⟨rfl, rfl⟩ | ⟨p, rfl, mb, fp, av, fv, f, g, h, hp, hm, ha, ho⟩
  · refine (answered_nil w).mono ?_
    rintro e w' ⟨rfl, rfl⟩
    exact ⟨none, 0, rfl, ⟨OwR.zero⟩, ⟨.inl ⟨rfl, rfl⟩⟩, ⟨Sn.refl _ _ _⟩⟩
  obtain ⟨a, l, c, rfl⟩ := owns_shapeK h.an
  obtain rfl : l = m.an.length := by
    rcases h.an.2 with ⟨e, h0⟩ | ⟨g, cap, cur, e, _⟩
    · injection e with _ e1; omega
    · injection e with _ e1
  have c3 : w.cell? ⟨p, 3, none⟩ = some (.slice a m.an.length c) := by rw [h.box.cell]; rfl
  have f3 := h.box.frozen 3
  have K : Keeps (fun k => k = p) w (w.setCell ⟨p, 3, none⟩ (.slice none 0 0)) := (Keeps.refl _ _).setCell _ _ (fun _ => rfl)
  have X : Aside ((PgV (relab own k) 1 99 (w.setCell ⟨p, 3, none⟩ (.slice none 0 0)) (ptr p) m.told ∧ Sn (fun q => q = 1) own w own (w.setCell ⟨p, 3, none⟩ (.slice none 0 0))) ∧ XA (relab own k) (w.setCell ⟨p, 3, none⟩ (.slice none 0 0)) k (.slice a m.an.length c) m.an) := ⟨by
    refine ⟨⟨.inr ⟨p, rfl, mb, fp, .slice none 0 0, fv, f, g, ⟨h.box.setCell 3 _, h.mp.later K (fun e => h.ne_map e.symm), World.ownsRow_nil _ _ _ _, h.q.later K (fun k hk e => h.ne_q (by rw [← e]; exact hk)), h.half, h.ok.told, h.pos⟩, relab_keep own k hp (by decide), relab_keep own k hm (by decide), fun k e => (by cases e), fun b hb => relab_keep own k (ho b hb) (by decide)⟩, ⟨fun _ _ => rfl, K.mono (fun k e _ => by rw [e]; exact hp)⟩⟩, owns_later h.an K (fun k hk e => h.ne_an (by rw [← e]; exact hk)), fun b hb => ⟨by unfold relab; rw [if_pos (ha b hb)], Nat.lt_of_lt_of_le (owns_lt h.an b hb) K.size⟩⟩⟩
  generalize m.an.length = n at c3 X ⊢
  clear h ha ho K
  go_enter Tryd.func16, Tryd.ntmps16
  go_wp2
  go_ret
  exact ⟨a, c, rfl, ⟨X.it.2⟩, ⟨X.it.1.1⟩, ⟨X.it.1.2⟩⟩
/-- the answered go out as list number vs.length; v3: the document's, as it stood -/
theorem Lm.out (h : Lm A w0 x m v2 v3 v4 wb av vs f nn gv [] own w) {m' : Pm} {v : Value} (hm : m'.most = m.most ∧ m'.last = m.last) (hp : PgV (relab own vs.length) 1 99 w' x m') (hd : m'.L = m.L ∧ m'.an = [] ∧ m'.ow = m.ow) (hf : m'.Fr) (s : Sn (fun q => q = 1 ∨ q = 8) own w own w') (hc : CellsO own 8 w' wb 34 (rcel m v2 (.slice none 0 0) v4)) (_hv : XA (relab own vs.length) w' vs.length v m.an) : Lm A w0 x m' v2 (.slice none 0 0) v4 wb av vs f nn gv [] (relab own vs.length) w' ∧ RdN (relab own vs.length) w' v3 m.an := by
  have rr : ∀ {i b : Nat}, own b = i → i ≠ 99 → relab own vs.length b = i := fun h hi => relab_keep own _ h hi
  have rd : ∀ {u : Value} {L : List Nat}, RdN own w u L → RdN (relab own vs.length) w' u L := fun {u L} hu => by
    have := hu.sn s (by decide)
    exact ⟨this.r, fun b hb => ⟨rr (this.o b hb).1 (by decide), (this.o b hb).2⟩⟩
  have ow : ∀ {o : Nat} {t : TypeId} {u : Value} {n : Nat} {zs : List Value}, OwR own o w t 1 u n zs → o ≠ 1 → o ≠ 8 → o ≠ 99 → OwR (relab own vs.length) o w' t 1 u n zs := fun {o t u n zs} hu h1 h8 h99 => by
    have := hu.sn s (by omega)
    exact ⟨this.1, fun b hb => ⟨rr (this.2 b hb).1 h99, (this.2 b hb).2⟩⟩
  have g := h.pw.g.sn s (by decide)
  refine ⟨⟨⟨⟨⟨fun b hb => rr (g.g.zero b hb) (by decide), g.g.bel, g.g.size⟩, g.s⟩, ⟨hp, ⟨by rw [hd.1]; exact rd h.pw.t.d.wt, by rw [hd.2.1]; exact RdN.nil _ _, by rw [hd.2.2]; exact rd h.pw.t.d.o⟩, hf⟩, ⟨by unfold rcel; rw [hm.1, hm.2]; exact hc.1, rr hc.2 (by decide)⟩⟩, ow h.all (by decide) (by decide) (by decide), fun k v e => ow (h.xs k v e) (by omega) (by omega) (by omega), ow h.gr (by decide) (by decide) (by decide), fun k v e => by simp at e⟩, rd h.pw.t.d.a⟩
end Go.Proofs.YtnmpnajmhfonhaaDoor
