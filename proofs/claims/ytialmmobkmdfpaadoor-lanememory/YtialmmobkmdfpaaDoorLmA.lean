/-
  LaneMemory's world: the lane, eighteen lists, what was grown out of them.
-/
import Derived.Test.YtialmmobkmdfpaaDoorStA3
import Derived.Test.YtialmmobkmdfpaaDoorRowsS
namespace Go.Proofs.YtialmmobkmdfpaaDoor
open Go.RowKit

variable {A : Nat → Addr} {w w' w0 W : World} {own own' : Nat → Nat} {L l : List Tk} {v v' vm av gv : Value} {vs ys : List Value} {f : Nat → List Tk} {p m k : Nat} {I : Nat → Prop}
/-- list k: these tickets -/
abbrev XAt (own : Nat → Nat) (w : World) (k : Nat) (v : Value) (l : List Tk) : Prop := OwR own (20 + k) w 30 3 v l.length (flatT l)
def r90 (n k : Nat) : List Tk := List.replicate n ⟨90, 0, k⟩
def t92 (k : Nat) : Tk := ⟨92, 0, k⟩
structure Lm (A : Nat → Addr) (w0 : World) (p : Nat) (L : List Tk) (m : Nat) (vm av : Value) (vs : List Value) (f : Nat → List Tk) (gv : Value) (ys : List Value) (own : Nat → Nat) (W : World) : Prop where
  lv : Lv A w0 (ptr p) false L m vm own W
  all : OwR own 6 W 26 1 av vs.length vs
  xs : ∀ k v, vs[k]? = some v → XAt own W k v (f k)
  gr : OwR own 7 W 26 1 gv ys.length ys
  gs : ∀ k v, ys[k]? = some v → XAt own W k v (r90 L.length k ++ [t92 k])
theorem Lm.sn (h : Lm A w0 p L m vm av vs f gv ys own w) (s : Sn I own w own' w') (h0 : ¬ I 0) (h4 : ∀ k, In4 1 k → ¬ I k) (h9 : ¬ I 9) (h6 : ¬ I 6) (h7 : ¬ I 7) (hx : ∀ k, ¬ I (20 + k)) : Lm A w0 p L m vm av vs f gv ys own' w' :=
  ⟨h.lv.sn s h0 h4 h9, h.all.sn s h6, fun k v e => (h.xs k v e).sn s (hx k), h.gr.sn s h7, fun k v e => (h.gs k v e).sn s (hx k)⟩
theorem Lm.idle (h : Lm A w0 p L m vm av vs f gv ys own w) (s : Sn (fun _ => False) own w own' w') : Lm A w0 p L m vm av vs f gv ys own' w' := h.sn s (fun x => x) (fun _ _ x => x) (fun x => x) (fun x => x) (fun x => x) (fun _ x => x)
theorem Lm.quiet (h : Lm A w0 p L m vm av vs f gv ys own w) (k : Keeps Nowhere w w') : Lm A w0 p L m vm av vs f gv ys own w' := h.idle (Sn.same k)
/-- list k, and the odd rows, have changed -/
theorem Lm.at (h : Lm A w0 p L m vm av vs f gv ys own w) (s : Sn (fun q => q = 8 ∨ q = 20 + k) own w own' w') (hk : ys.length ≤ k) (hv : vs[k]? = some v) (hX : XAt own' w' k v l) : Lm A w0 p L m vm av vs (fun j => if j = k then l else f j) gv ys own' w' := by
  refine ⟨h.lv.sn s (by omega) (fun j a b => by unfold In4 at a; omega) (by omega), h.all.sn s (by omega), fun j u e => ?_, h.gr.sn s (by omega), fun j u e => ?_⟩
  · by_cases hj : j = k
    · subst hj
      rw [hv] at e
      injection e with e
      subst e
      rw [if_pos rfl]
      exact hX
    · rw [if_neg hj]
      exact (h.xs j u e).sn s (by omega)
  · have := (List.getElem?_eq_some_iff.1 e).1
    exact (h.gs j u e).sn s (by omega)
/-- one list more -/
theorem Lm.push (h : Lm A w0 p L m vm av vs f gv ys own w) (hX : XAt own w vs.length v (f vs.length)) (hk : Keeps Nowhere w W) (ho : w'.ownsRow 0 26 1 v' (vs.length + 1) (vs ++ [v])) (sp : Split av v' 1 W w') : Lm A w0 p L m vm v' (vs ++ [v]) f gv ys (give own w.heap.size 6) w' := by
  obtain ⟨a, s⟩ := h.all.app hk ho sp
  refine ⟨h.lv.sn s (by decide) (fun j a b => by unfold In4 at a; omega) (by decide), ?_, fun j u e => ?_, h.gr.sn s (by decide), fun j u e => (h.gs j u e).sn s (by omega)⟩
  · rw [List.length_append]; exact a
  · rcases Nat.lt_trichotomy j vs.length with hj | hj | hj
    · rw [List.getElem?_append_left hj] at e
      exact (h.xs j u e).sn s (by omega)
    · subst hj
      rw [List.getElem?_append_right (Nat.le_refl _)] at e
      simp at e
      subst e
      exact hX.sn s (by omega)
    · rw [List.getElem?_append_right (by omega), List.getElem?_eq_none (by simp; omega)] at e
      cases e
theorem Lm.gpush (h : Lm A w0 p L m vm av vs f gv ys own w) (hX : XAt own w ys.length v (r90 L.length ys.length ++ [t92 ys.length])) (hk : Keeps Nowhere w W) (ho : w'.ownsRow 0 26 1 v' (ys.length + 1) (ys ++ [v])) (sp : Split gv v' 1 W w') : Lm A w0 p L m vm av vs f v' (ys ++ [v]) (give own w.heap.size 7) w' := by
  obtain ⟨a, s⟩ := h.gr.app hk ho sp
  refine ⟨h.lv.sn s (by decide) (fun j a b => by unfold In4 at a; omega) (by decide), h.all.sn s (by decide), fun j u e => (h.xs j u e).sn s (by omega), ?_, fun j u e => ?_⟩
  · rw [List.length_append]; exact a
  · rcases Nat.lt_trichotomy j ys.length with hj | hj | hj
    · rw [List.getElem?_append_left hj] at e
      exact (h.gs j u e).sn s (by omega)
    · subst hj
      rw [List.getElem?_append_right (Nat.le_refl _)] at e
      simp at e
      subst e
      exact hX.sn s (by omega)
    · rw [List.getElem?_append_right (by omega), List.getElem?_eq_none (by simp; omega)] at e
      cases e
theorem Lm.start (h : Lv A w0 (ptr p) false L m vm own w) (f : Nat → List Tk) : Lm A w0 p L m vm (.slice none 0 0) [] f (.slice none 0 0) [] own w := ⟨h, OwR.zero, fun k v e => by simp at e, OwR.zero, fun k v e => by simp at e⟩
theorem Lm.more (h : Lm A w0 p L m vm av vs f gv ys own w) {g : Nat → List Tk} (hg : ∀ k, k < vs.length → f k = g k) : Lm A w0 p L m vm av vs g gv ys own w := ⟨h.lv, h.all, fun k v e => by rw [← hg k (List.getElem?_eq_some_iff.1 e).1]; exact h.xs k v e, h.gr, h.gs⟩
theorem Lm.rd (h : Lm A w0 p L m vm av vs f gv ys own w) (hv : vs[k]? = some v) : RdT w v (f k) := owns_readsK (h.xs k v hv).1
/-- list k of the row of lists -/
theorem Lm.cell (h : Lm A w0 p L m vm av vs f gv ys own w) (hk : k < vs.length) : ∃ b c a d v, av = .slice (some ⟨b, 0, none⟩) vs.length c ∧ vs[k]? = some v ∧ v = .slice a (f k).length d ∧ w.cell? ⟨b, k, none⟩ = some v := by
  obtain ⟨v, hv⟩ : ∃ v, vs[k]? = some v := ⟨_, List.getElem?_eq_getElem hk⟩
  obtain ⟨a, c, e, _, _, _⟩ := (h.rd hv).at
  obtain ⟨_, a', c', he, _, _, _, hc⟩ := owns_readsK h.all.1
  rcases h.all.1.2 with ⟨x, y⟩ | ⟨g, cap, cur, rfl, _⟩
  · rw [y] at hk; exact absurd hk (Nat.not_lt_zero _)
  · obtain ⟨g', o', e1, e2⟩ := hc k v hv
    injection he with e3 e4 e5
    rw [← e3] at e1
    injection e1 with e1
    injection e1 with e6 e7
    subst e6 e7
    rw [Nat.zero_add] at e2
    exact ⟨g, cap, a, c, v, rfl, hv, e, e2⟩
theorem Lm.gcell (h : Lm A w0 p L m vm av vs f gv ys own w) (hk : k < ys.length) : ∃ b c b2 d v, gv = .slice (some ⟨b, 0, none⟩) ys.length c ∧ ys[k]? = some v ∧ v = .slice (some ⟨b2, 0, none⟩) (L.length + 1) d ∧ w.cell? ⟨b, k, none⟩ = some v ∧ w.cell? ⟨b2, L.length * 3, none⟩ = some (.int .i64 92) ∧ w.cell? ⟨b2, L.length * 3 + 1, none⟩ = some (.int .u32 0) ∧ w.cell? ⟨b2, L.length * 3 + 2, none⟩ = some (.int .u32 k) := by
  obtain ⟨v, hv⟩ : ∃ v, ys[k]? = some v := ⟨_, List.getElem?_eq_getElem hk⟩
  have hX := h.gs k v hv
  obtain ⟨a, c, e, _, _, hat⟩ := RdT.at (owns_readsK hX.1)
  obtain ⟨g2, o2, rfl, c0, c1, c2⟩ := hat L.length (t92 k) (by rw [List.getElem?_append_right (by simp [r90])]; simp [r90])
  have o0 : o2 = 0 := by
    rcases hX.1.2 with ⟨x, y⟩ | ⟨g, cap, cur, x, _⟩
    · rw [x] at e; cases e
    · rw [x] at e
      injection e with e
      injection e with e
      injection e with e1 e2
      exact e2.symm
  subst o0
  obtain ⟨_, a', c', he, _, _, _, hc⟩ := owns_readsK h.gr.1
  rcases h.gr.1.2 with ⟨x, y⟩ | ⟨g, cap, cur, rfl, _⟩
  · rw [y] at hk; exact absurd hk (Nat.not_lt_zero _)
  · obtain ⟨g', o', e1, e2⟩ := hc k v hv
    injection he with e3 e4 e5
    rw [← e3] at e1
    injection e1 with e1
    injection e1 with e6 e7
    subst e6 e7
    rw [Nat.zero_add] at e2 c0 c1 c2
    rw [List.length_append, show (r90 L.length k).length = L.length by simp [r90]] at e
    exact ⟨g, cap, g2, c, v, rfl, hv, e, e2, c0, c1, c2⟩
theorem flatT_put (l : List Tk) (i : Nat) (t : Tk) (hi : i < l.length) : flatT (l.set i t) = (((flatT l).set (i * 3) (.int .i64 t.k)).set (i * 3 + 1) (.int .u32 t.s)).set (i * 3 + 2) (.int .u32 t.v) := by
  induction l generalizing i with
  | nil => simp at hi
  | cons x l ih =>
    cases i with
    | zero => simp [flatT, tcells]
    | succ i =>
      have := ih i (by simpa using hi)
      simp only [List.set_cons_succ, flatT, List.flatMap_cons] at this ⊢
      rw [this]
      simp only [tcells, List.cons_append, List.nil_append, Nat.add_mul, Nat.one_mul]
      rfl
/-- a ticket of list k is written over -/
theorem XAt.put (h : XAt own w k v l) {i : Nat} (hi : i < l.length) (t : Tk) : ∃ b c, v = .slice (some ⟨b, 0, none⟩) l.length c ∧ (∀ j, w.frozen? ⟨b, j, none⟩ = false) ∧ (∃ u0 u1 u2, w.cell? ⟨b, i * 3, none⟩ = some u0 ∧ w.cell? ⟨b, i * 3 + 1, none⟩ = some u1 ∧ w.cell? ⟨b, i * 3 + 2, none⟩ = some u2) ∧
    (∀ w', w' = ((w.setCell ⟨b, i * 3, none⟩ (.int .i64 t.k)).setCell ⟨b, i * 3 + 1, none⟩ (.int .u32 t.s)).setCell ⟨b, i * 3 + 2, none⟩ (.int .u32 t.v) → XAt own w' k v (l.set i t) ∧ Sn (fun q => q = 8 ∨ q = 20 + k) own w own w') := by
  obtain ⟨ho, hb⟩ := h
  rcases id ho.2 with ⟨rfl, x⟩ | ⟨b, c, cur, rfl, _⟩
  · omega
  · obtain ⟨a', c', e, _, _, hat⟩ := RdT.at (owns_readsK ho)
    obtain ⟨g2, o2, e2, c0, c1, c2⟩ := hat i l[i] (List.getElem?_eq_getElem hi)
    injection e with e3 e4 e5
    rw [← e3] at e2
    injection e2 with e2
    injection e2 with e6 e7
    subst e6 e7
    rw [Nat.zero_add] at c0 c1 c2
    refine ⟨b, c, rfl, fun j => owns_frozen ho j, ⟨_, _, _, c0, c1, c2⟩, fun w' hw => ?_⟩
    have hb' := hb b rfl
    have K : Keeps (fun q => own q = 8 ∨ own q = 20 + k) w w' := by
      subst hw
      exact (((Keeps.refl _ _).setCell _ _ (fun _ => .inr hb'.1)).setCell _ _ (fun _ => .inr hb'.1)).setCell _ _ (fun _ => .inr hb'.1)
    have o3 := owns_setCell (owns_setCell (owns_setCell ho (i * 3) (by omega) (.int .i64 t.k)) (i * 3 + 1) (by omega) (.int .u32 t.s)) (i * 3 + 2) (by omega) (.int .u32 t.v)
    rw [← flatT_put l i t hi, ← hw] at o3
    refine ⟨⟨by rw [List.length_set]; exact o3, fun q hq => ⟨(hb q hq).1, Nat.lt_of_lt_of_le (hb q hq).2 K.size⟩⟩, ⟨fun _ _ => rfl, K⟩⟩
/-- the first i tickets written over -/
def part (k i : Nat) (L : List Tk) : List Tk := r90 i k ++ L.drop i
theorem part_zero (k : Nat) : part k 0 L = L := by simp [part, r90]
theorem part_len {i : Nat} (h : i ≤ L.length) : (part k i L).length = L.length := by simp [part, r90]; omega
theorem part_all : part k L.length L = r90 L.length k := by simp [part]
theorem part_step {i : Nat} (h : i < L.length) : (part k i L).set i ⟨90, 0, k⟩ = part k (i + 1) L := by
  unfold part r90
  rw [List.set_append_right _ _ (by simp), List.drop_eq_getElem_cons h, List.replicate_succ', List.append_assoc]
  simp only [List.length_replicate, Nat.sub_self, List.set_cons_zero, List.cons_append, List.nil_append]
theorem r90_at {n i : Nat} (h : i < n) : (r90 n k)[i]? = some ⟨90, 0, k⟩ := by simp [r90, h]
theorem r90_len (n k : Nat) : (r90 n k).length = n := by simp [r90]
theorem info65 : (Tryd.prog.info? 26).map (fun i => (i.zero, i.size, i.bytes)) = some (some (.slice none 0 0), 1, 24) := by kernel_rfl
end Go.Proofs.YtialmmobkmdfpaaDoor
