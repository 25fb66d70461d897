/-
  culvertlaw02.apart's world: lists of numbers, each with its owner, and what was grown out of them
-/
import Derived.Test.YtkmijhfimkcoiaaDoorIv
import Derived.Test.YtkmijhfimkcoiaaDoorChecked
import Derived.Test.YtkmijhfimkcoiaaDoorRowsS
import Derived.Deep.CutBlock
import Derived.Deep.DeepCutAuto
namespace Go.Proofs.YtkmijhfimkcoiaaDoor
open Go.RowKit

variable {w w' w0 W : World} {own own' own0 : Nat → Nat} {l L : List Int} {v v' av gv : Value} {vs ys : List Value} {f : Nat → List Int} {nn : Nat → Nat} {k : Nat} {I : Nat → Prop}
abbrev eI (t : Int) : Value := .int .i64 t
/-- list k: these numbers -/
abbrev XA (own : Nat → Nat) (w : World) (k : Nat) (v : Value) (l : List Int) : Prop := OwR own (100 + k) w 3 1 v l.length (iv l)
def r90 (n k : Nat) : List Int := List.replicate n (-100 - (k : Int))
def t70 (k : Nat) : Int := 1000 + k
def natOf : Value → Nat | .int _ q => q.toNat | _ => 0
def Ia (q : Nat) : Prop := q = 97 ∨ q = 98 ∨ 100 ≤ q
structure Ap (own0 : Nat → Nat) (w0 : World) (av : Value) (vs : List Value) (f : Nat → List Int) (nn : Nat → Nat) (gv : Value) (ys : List Value) (own : Nat → Nat) (W : World) : Prop where
  s : Sn Ia own0 w0 own W
  all : OwR own 5 W 27 1 av vs.length vs
  xs : ∀ k v, vs[k]? = some v → XA own W k v (f k)
  gr : OwR own 97 W 27 1 gv ys.length ys
  gs : ∀ k v, ys[k]? = some v → XA own W k v (r90 (nn k) k ++ [t70 k])
theorem Ap.quiet (h : Ap own0 w0 av vs f nn gv ys own w) (k : Keeps Nowhere w w') : Ap own0 w0 av vs f nn gv ys own w' :=
  ⟨h.s.trans (Sn.same k), h.all.sn (I := fun _ => False) (Sn.same k) (fun x => x), fun j v e => (h.xs j v e).sn (I := fun _ => False) (Sn.same k) (fun x => x), h.gr.sn (I := fun _ => False) (Sn.same k) (fun x => x), fun j v e => (h.gs j v e).sn (I := fun _ => False) (Sn.same k) (fun x => x)⟩
/-- list k, and the odd rows (98), have changed -/
theorem Ap.at (h : Ap own0 w0 av vs f nn gv ys own w) (s : Sn (fun q => q = 98 ∨ q = 100 + k) own w own' w') (hk : ys.length ≤ k) (hv : vs[k]? = some v) (hX : XA own' w' k v l) : Ap own0 w0 av vs (fun j => if j = k then l else f j) nn gv ys own' w' := by
  refine ⟨h.s.trans (s.mono (fun q e => by unfold Ia; omega)), h.all.sn s (by omega), fun j u e => ?_, h.gr.sn s (by omega), fun j u e => ?_⟩
  · by_cases hj : j = k
    · subst hj
      rw [hv] at e
      injection e with e
      subst e
      rw [if_pos rfl]
      exact hX
    · rw [if_neg hj]
      exact (h.xs j u e).sn s (by omega)
  · have := (List.getElem?_eq_some_iff.1 e).1
    exact (h.gs j u e).sn s (by omega)
theorem Ap.gpush (h : Ap own0 w0 av vs f nn gv ys own w) (hX : XA own w ys.length v (r90 (nn ys.length) ys.length ++ [t70 ys.length])) (hk : Keeps Nowhere w W) (ho : w'.ownsRow 0 27 1 v' (ys.length + 1) (ys ++ [v])) (sp : Split gv v' 1 W w') : Ap own0 w0 av vs f nn v' (ys ++ [v]) (give own w.heap.size 97) w' := by
  obtain ⟨a, s⟩ := h.gr.app hk ho sp
  refine ⟨h.s.trans (s.mono (fun q e => .inl e)), h.all.sn s (by decide), fun j u e => (h.xs j u e).sn s (by omega), ?_, fun j u e => ?_⟩
  · rw [List.length_append]; exact a
  · rcases Nat.lt_trichotomy j ys.length with hj | hj | hj
    · rw [List.getElem?_append_left hj] at e
      exact (h.gs j u e).sn s (by omega)
    · subst hj
      rw [List.getElem?_append_right (Nat.le_refl _)] at e
      simp at e
      subst e
      exact hX.sn s (by omega)
    · rw [List.getElem?_append_right (by omega), List.getElem?_eq_none (by simp; omega)] at e
      cases e
theorem Ap.more (h : Ap own0 w0 av vs f nn gv ys own w) {g : Nat → List Int} (hg : ∀ k, k < vs.length → f k = g k) : Ap own0 w0 av vs g nn gv ys own w := ⟨h.s, h.all, fun k v e => by rw [← hg k (List.getElem?_eq_some_iff.1 e).1]; exact h.xs k v e, h.gr, h.gs⟩
theorem Ap.lens (h : Ap own0 w0 av vs f nn gv [] own w) (n2 : Nat → Nat) : Ap own0 w0 av vs f n2 gv [] own w := ⟨h.s, h.all, h.xs, h.gr, fun k v e => by simp at e⟩
theorem rowS_cell {vs : List Value} {o : Nat} (h : OwR own o w 27 1 av vs.length vs) {v : Value} (hv : vs[k]? = some v) : ∃ b c, av = .slice (some ⟨b, 0, none⟩) vs.length c ∧ vs.length ≤ c ∧ w.cell? ⟨b, k, none⟩ = some v := by
  rcases h.1.2 with ⟨a, y⟩ | ⟨g, cap, cur, rfl, _, _, h1, _⟩
  · rw [List.eq_nil_of_length_eq_zero y] at hv; simp at hv
  · have := h.1.cells rfl k v hv
    rw [add_none, Nat.zero_add] at this
    exact ⟨g, cap, rfl, h1, this⟩
theorem XA.shape (h : XA own w k v l) : ∃ a c, v = .slice a l.length c ∧ l.length ≤ c := by
  rcases h.1.2 with ⟨rfl, h0⟩ | ⟨g, cap, cur, rfl, _, _, h1, _⟩
  · exact ⟨none, 0, by rw [h0], by omega⟩
  · exact ⟨_, _, rfl, h1⟩
theorem XA.cell (h : XA own w k v l) {j : Nat} {y : Int} (hj : l[j]? = some y) : ∃ b c, v = .slice (some ⟨b, 0, none⟩) l.length c ∧ w.cell? ⟨b, j, none⟩ = some (.int .i64 y) := by
  rcases h.1.2 with ⟨_, h0⟩ | ⟨g, cap, cur, rfl, _⟩
  · rw [List.eq_nil_of_length_eq_zero h0] at hj
    simp at hj
  · refine ⟨g, cap, rfl, ?_⟩
    have := h.1.cells rfl j (eI y) (by unfold iv; rw [List.getElem?_map, hj]; rfl)
    rwa [add_none, Nat.zero_add] at this
/-- a number of list k is written over -/
theorem XA.put (h : XA own w k v l) {i : Nat} (hi : i < l.length) (t : Int) : ∃ b c u0, v = .slice (some ⟨b, 0, none⟩) l.length c ∧ w.frozen? ⟨b, i, none⟩ = false ∧ w.cell? ⟨b, i, none⟩ = some u0 ∧ XA own (w.setCell ⟨b, i, none⟩ (eI t)) k v (l.set i t) ∧ Sn (fun q => q = 98 ∨ q = 100 + k) own w own (w.setCell ⟨b, i, none⟩ (eI t)) := by
  obtain ⟨b, c, e1, e2⟩ := h.cell (List.getElem?_eq_getElem hi)
  obtain ⟨ho, hb⟩ := h
  subst e1
  have K : Keeps (fun q => own q = 98 ∨ own q = 100 + k) w (w.setCell ⟨b, i, none⟩ (eI t)) := (Keeps.refl _ _).setCell _ _ (fun _ => .inr (hb b rfl).1)
  have o3 := owns_setCell ho i (by omega) (eI t)
  refine ⟨b, c, _, rfl, owns_frozen ho i, e2, ⟨?_, fun q hq => ⟨(hb q hq).1, Nat.lt_of_lt_of_le (hb q hq).2 K.size⟩⟩, ⟨fun _ _ => rfl, K⟩⟩
  unfold iv
  rw [List.length_set, List.map_set]
  exact o3
/-- the first i numbers written over -/
def part (t : Int) (i : Nat) (L : List Int) : List Int := List.replicate i t ++ L.drop i
theorem part_zero (t : Int) : part t 0 L = L := by simp [part]
theorem part_len {t : Int} {i : Nat} (h : i ≤ L.length) : (part t i L).length = L.length := by simp [part]; omega
theorem part_all {t : Int} : part t L.length L = List.replicate L.length t := by simp [part]
theorem part_step {t : Int} {i : Nat} (h : i < L.length) : (part t i L).set i t = part t (i + 1) L := by
  have h1 : (List.replicate i t).length = i := by simp
  unfold part
  rw [List.set_append_right _ _ (by omega), h1, Nat.sub_self, List.drop_eq_getElem_cons h, List.set_cons_zero]
  rw [List.replicate_succ', List.append_assoc]
  rfl
theorem r90_at {n i : Nat} (h : i < n) : (r90 n k)[i]? = some (-100 - (k : Int)) := by simp [r90, h]
theorem r90_len (n k : Nat) : (r90 n k).length = n := by simp [r90]
/-- the k-th list is being written over, those ahead of it are -/
def f5 (f : Nat → List Int) (i j q : Nat) : List Int := if q < i then r90 (f q).length q else if q = i then part (-100 - (i : Int)) j (f q) else f q
theorem f5_start (f : Nat → List Int) (q : Nat) : f5 f 0 0 q = f q := by
  unfold f5
  rw [if_neg (by omega)]
  split
  · rename_i h; subst h; exact part_zero _
  · rfl
theorem f5_at (f : Nat → List Int) (i j : Nat) : f5 f i j i = part (-100 - (i : Int)) j (f i) := by unfold f5; rw [if_neg (by omega), if_pos rfl]
theorem f5_len (f : Nat → List Int) {i j q : Nat} (h : j ≤ (f i).length) : (f5 f i j q).length = (f q).length := by
  unfold f5
  split
  · exact r90_len _ _
  split
  · rename_i h; subst h; exact part_len (by assumption)
  · rfl
theorem f5_step (f : Nat → List Int) (i j q : Nat) : (if q = i then part (-100 - (i : Int)) (j + 1) (f i) else f5 f i j q) = f5 f i (j + 1) q := by
  unfold f5
  by_cases h : q = i
  · subst h; simp
  · simp [h]
theorem f5_all (f : Nat → List Int) (i q : Nat) : f5 f i (f i).length q = f5 f (i + 1) 0 q := by
  unfold f5
  by_cases h : q < i
  · rw [if_pos h, if_pos (by omega)]
  · rw [if_neg h]
    by_cases h2 : q = i
    · subst h2; rw [if_pos rfl, if_pos (by omega), part_all]; rfl
    · rw [if_neg h2, if_neg (by omega)]
      by_cases h3 : q = i + 1
      · subst h3; rw [if_pos rfl, part_zero]
      · rw [if_neg h3]
theorem f5_end (f : Nat → List Int) {i q : Nat} (h : q < i) : f5 f i 0 q = r90 (f q).length q := by unfold f5; rw [if_pos h]
theorem infoS : (Tryd.prog.info? 27).map (fun i => (i.zero, i.size, i.bytes)) = some (some (.slice none 0 0), 1, 24) := by kernel_rfl
theorem infoI : (Tryd.prog.info? 3).map (fun i => (i.zero, i.size, i.bytes)) = some (some (.int .i64 0), 1, 8) := by kernel_rfl
theorem wrap_small {c : Int} {k : Nat} (hc : -2000000 ≤ c ∧ c ≤ 2000000) (hk : k ≤ 2000000) : IntKind.i64.wrap (c - (k : Int)) = c - (k : Int) := by rw [IntKind.wrap_i64]; omega
theorem wrap_smallA {c : Int} {k : Nat} (hc : -2000000 ≤ c ∧ c ≤ 2000000) (hk : k ≤ 2000000) : IntKind.i64.wrap (c + (k : Int)) = c + (k : Int) := by rw [IntKind.wrap_i64]; omega
theorem reads_one {e : TypeId} (W : World) (u : Value) : ReadsK 1 (W.alloc (.cells #[u] e)) (.slice (some ⟨W.heap.size, 0, none⟩) 1 1) 1 [u] :=
  ⟨rfl, _, 1, rfl, Nat.le_refl _, by decide, fun h => (by cases h), fun j y hj => ⟨_, _, rfl, by
    cases j with
    | zero => simp only [List.getElem?_cons_zero, Option.some.injEq] at hj; subst hj; exact (Cells.new W e [u]).cell 0
    | succ j => simp at hj⟩⟩
theorem slice_len {base k n : Nat} {e : TypeId} {u : Value} {zs : List Value} (h : w.ownsRow base e k u n zs) : ∃ a c, u = .slice a n c := by
  rcases h.2 with ⟨rfl, h0⟩ | ⟨g, cap, cur, rfl, _⟩
  · exact ⟨none, 0, by rw [h0]⟩
  · exact ⟨_, _, rfl⟩
theorem Ap.gpushRun (h : Ap own0 w0 av vs f nn gv ys own w) (hX : XA own w ys.length v (r90 (nn ys.length) ys.length ++ [t70 ys.length])) (hv : v.oneCell' = true) (hb : ys.length ≤ 1048576) : ∃ (a : Option Addr) (c : Nat) (w' : World) (own' : Nat → Nat), (∀ ty, (Builtin.append_ #[44, 44] ty #[gv, .slice (some ⟨w.heap.size, 0, none⟩) 1 1]).run Tryd.prog (w.alloc (.cells #[v] 27)) = .ok (.slice a (ys.length + 1) c) w') ∧ Aside (Ap own0 w0 av vs f nn (.slice a (ys.length + 1) c) (ys ++ [v]) own' w') := by
  obtain ⟨i, hi, hz0, hz1, hz2⟩ := info_parts infoS
  have K : Keeps Nowhere w (w.alloc (.cells #[v] 27)) := (Keeps.refl _ _).alloc _
  obtain ⟨u, w', run, o', sp⟩ := run_appendS (P := Tryd.prog) (w.alloc (.cells #[v] 27)) 44 27 i _ 1 24 Tryd.underlying44 hi hz0 hz1 hz2 rfl (by decide) gv ys.length ys (owns_later h.gr.1 K (fun _ _ x => x)) (.slice (some ⟨w.heap.size, 0, none⟩) 1 1) 1 [v] (by decide) (reads_one w v) (by simp [hv]) (by omega) (by unfold maxLen; omega)
  obtain ⟨a, c, rfl⟩ := slice_len o'
  exact ⟨a, c, w', _, run, ⟨h.gpush hX K o' sp⟩⟩
abbrev Gw (own : Nat → Nat) (w : World) (v : Value) (l : List Int) (gv : Value) (j : Nat) : Prop := Grows own w 3 1 v l.length (iv l) 98 gv j (List.replicate j (eI (-7)))
theorem Gw.run {j : Nat} (G : Gw own w v l gv j) (X : XA own w k v l) (hb : l.length ≤ 2147483647) (hj : j ≤ 64) : ∃ (a : Option Addr) (c : Nat) (w' : World) (own' : Nat → Nat), (∀ ty, (Builtin.append_ #[27, 27] ty #[gv, .slice (some ⟨w.heap.size, 0, none⟩) 1 1]).run Tryd.prog (w.alloc (.cells #[eI (-7)] 3)) = .ok (.slice a (l.length + (j + 1)) c) w') ∧ Aside (XA own' w' k v l) ∧ Aside (Gw own' w' v l (.slice a (l.length + (j + 1)) c) (j + 1)) ∧ Aside (Sn (fun q => q = 98 ∨ q = 100 + k) own w own' w') := by
  obtain ⟨i, hi, hz0, hz1, hz2⟩ := info_parts infoI
  have K : Keeps Nowhere w (w.alloc (.cells #[eI (-7)] 3)) := (Keeps.refl _ _).alloc _
  obtain ⟨u, w', run, o', sp⟩ := run_appendS (P := Tryd.prog) (w.alloc (.cells #[eI (-7)] 3)) 27 3 i _ 1 8 Tryd.underlying27 hi hz0 hz1 hz2 rfl (by decide) gv (l.length + j) _ (owns_later G.1 K (fun _ _ x => x)) (.slice (some ⟨w.heap.size, 0, none⟩) 1 1) 1 [eI (-7)] (by decide) (reads_one w _) (by simp [Value.oneCell']) (by omega) (by unfold maxLen; omega)
  obtain ⟨a, c, rfl⟩ := slice_len o'
  obtain ⟨X2, G2, S2⟩ := Grows.app X (by simp [iv]) G (by omega) K o' sp
  rw [← List.replicate_succ'] at G2
  exact ⟨a, c, w', _, run, ⟨X2⟩, ⟨G2⟩, ⟨S2⟩⟩
theorem XA.appRun (X : XA own w k v l) (t : Int) (hb : l.length ≤ 2147483647) : ∃ (a : Option Addr) (c : Nat) (w' : World) (own' : Nat → Nat), (∀ ty, (Builtin.append_ #[27, 27] ty #[v, .slice (some ⟨w.heap.size, 0, none⟩) 1 1]).run Tryd.prog (w.alloc (.cells #[eI t] 3)) = .ok (.slice a (l.length + 1) c) w') ∧ Aside (XA own' w' k v l) ∧ Aside (XA own' w' k (.slice a (l.length + 1) c) (l ++ [t])) ∧ Aside (Sn (fun q => q = 98 ∨ q = 100 + k) own w own' w') := by
  obtain ⟨i, hi, hz0, hz1, hz2⟩ := info_parts infoI
  have K : Keeps Nowhere w (w.alloc (.cells #[eI t] 3)) := (Keeps.refl _ _).alloc _
  obtain ⟨u, w', run, o', sp⟩ := run_appendS (P := Tryd.prog) (w.alloc (.cells #[eI t] 3)) 27 3 i _ 1 8 Tryd.underlying27 hi hz0 hz1 hz2 rfl (by decide) v l.length _ (owns_later X.1 K (fun _ _ x => x)) (.slice (some ⟨w.heap.size, 0, none⟩) 1 1) 1 [eI t] (by decide) (reads_one w _) (by simp [Value.oneCell']) (by omega) (by unfold maxLen; omega)
  obtain ⟨a, c, rfl⟩ := slice_len o'
  obtain ⟨a1, s1⟩ := X.app K o' sp
  have a2 := X.stays (by simp [iv]) K o' sp
  refine ⟨a, c, w', _, run, ⟨a2⟩, ⟨?_⟩, ⟨s1.mono (fun _ e => .inr e)⟩⟩
  unfold XA iv
  rw [List.length_append, List.map_append]
  exact a1
end Go.Proofs.YtkmijhfimkcoiaaDoor
