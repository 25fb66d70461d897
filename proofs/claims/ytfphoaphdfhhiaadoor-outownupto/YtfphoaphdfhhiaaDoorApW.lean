/-
  culvertlaw03.Wipe[byte] over a list of its own; lists and what they should be
-/
import Derived.Test.YtfphoaphdfhhiaaDoorApB
import Derived.Test.YtfphoaphdfhhiaaDoorRdOw
namespace Go.Proofs.YtfphoaphdfhhiaaDoor
open Go.RowKit
attribute [-go_sem] Builtin.append_

section
variable {w w' w0 W : World} {own own' own0 : Nat → Nat} {l : List Int} {v v' lv mv gv : Value} {vs us : List Value} {Lv Lu : List (List Int)} {k j : Nat} {I : Nat → Prop} {t : Int}
abbrev GR (own : Nat → Nat) (w : World) (k : Nat) (v : Value) (l : List Int) (gv : Value) (t : Int) (m : Nat) : Prop := Grows own w 5 1 v l.length (bv l) (101 + 2 * k) gv m (bv (List.replicate m t))
theorem GR.run (G : GR own w k v l gv t j) (X : XB own w k v l) (hb : l.length ≤ 4398046511104) (hj : j ≤ 80) : ∃ (a : Option Addr) (c : Nat) (w' : World) (own' : Nat → Nat), (∀ ty, (Builtin.append_ #[35, 35] ty #[gv, .slice (some ⟨w.heap.size, 0, none⟩) 1 1]).run Tryd.prog (w.alloc (.cells #[.int .u8 t] 5)) = .ok (.slice a (l.length + (j + 1)) c) w') ∧ Aside (XB own' w' k v l) ∧ Aside (GR own' w' k v l (.slice a (l.length + (j + 1)) c) t (j + 1)) ∧ Aside (Sn (fun q => q = 101 + 2 * k ∨ q = 100 + 2 * k) own w own' w') := by
  obtain ⟨i, hi, hz0, hz1, hz2⟩ := info_parts u8info
  have K : Keeps Nowhere w (w.alloc (.cells #[.int .u8 t] 5)) := (Keeps.refl _ _).alloc _
  obtain ⟨u, w', run, o', sp⟩ := run_appendS (P := Tryd.prog) (w.alloc (.cells #[.int .u8 t] 5)) 35 5 i _ 1 1 Tryd.underlying35 hi hz0 hz1 hz2 rfl (by decide) gv (l.length + j) _ (owns_later G.1 K (fun _ _ x => x)) (.slice (some ⟨w.heap.size, 0, none⟩) 1 1) 1 [.int .u8 t] (by decide) (reads_one w _) (by simp [Value.oneCell']) (by omega) (by unfold maxLen; omega)
  obtain ⟨a, c, rfl⟩ := slice_len o'
  obtain ⟨X2, G2, S2⟩ := Grows.app X (by simp [bv]) G (by omega) K o' sp
  refine ⟨a, c, w', _, run, ⟨X2⟩, ⟨?_⟩, ⟨S2⟩⟩
  have e : bv (List.replicate (j + 1) t) = bv (List.replicate j t) ++ [.int .u8 t] := by rw [List.replicate_succ', bv_append]; rfl
  unfold GR
  rw [e]
  exact G2
def partR (t : Int) (i : Nat) (L : List Int) : List Int := List.replicate i t ++ L.drop i
theorem partR_len {i : Nat} {L : List Int} (h : i ≤ L.length) : (partR t i L).length = L.length := by simp [partR]; omega
theorem partR_step {i : Nat} {L : List Int} (h : i < L.length) : (partR t i L).set i t = partR t (i + 1) L := by
  have h1 : (List.replicate i t).length = i := by simp
  unfold partR
  rw [List.set_append_right _ _ (by omega), h1, Nat.sub_self, List.drop_eq_getElem_cons h, List.set_cons_zero, List.replicate_succ', List.append_assoc]
  rfl
/-- the lists and, in rows of 7's, what they should read -/
structure Ls5 (own : Nat → Nat) (W : World) (lv : Value) (vs : List Value) (mv : Value) (us : List Value) (Lv Lu : List (List Int)) : Prop where
  lo : OwR own 5 W 35 1 lv vs.length vs
  xs : ∀ k v, vs[k]? = some v → XB own W k v (Lv.getD k [])
  mo : OwR own 6 W 35 1 mv us.length us
  ws : ∀ k u, us[k]? = some u → RdO own 7 W u (Lu.getD k [])
  n1 : vs.length = Lv.length
  n2 : us.length = Lu.length
theorem Ls5.nil (own : Nat → Nat) (W : World) : Ls5 own W (.slice none 0 0) [] (.slice none 0 0) [] [] [] := ⟨OwR.zero, fun k v e => by simp at e, OwR.zero, fun k v e => by simp at e, rfl, rfl⟩
theorem Ls5.sn (h : Ls5 own W lv vs mv us Lv Lu) (s : Sn I own W own' w') (h5 : ¬ I 5) (h6 : ¬ I 6) (h7 : ¬ I 7) (hh : ∀ q, q < Lv.length → ¬ I (100 + 2 * q)) : Ls5 own' w' lv vs mv us Lv Lu :=
  ⟨h.lo.sn s h5, fun k v e => (h.xs k v e).sn s (hh k (by have := (List.getElem?_eq_some_iff.1 e).1; have := h.n1; omega)), h.mo.sn s h6, fun k u e => (h.ws k u e).sn s h7, h.n1, h.n2⟩
theorem Ls5.quiet (h : Ls5 own W lv vs mv us Lv Lu) (hk : Keeps Nowhere W w') : Ls5 own w' lv vs mv us Lv Lu := h.sn (I := fun _ => False) (Sn.same hk) (fun x => x) (fun x => x) (fun x => x) (fun _ _ x => x)
theorem getD_app {L : List (List Int)} {k : Nat} (h : k < L.length) : (L ++ [l]).getD k [] = L.getD k [] := by
  rw [List.getD_eq_getElem?_getD, List.getElem?_append_left h, ← List.getD_eq_getElem?_getD]
theorem getD_last {L : List (List Int)} : (L ++ [l]).getD L.length [] = l := by
  rw [List.getD_eq_getElem?_getD, List.getElem?_append_right (Nat.le_refl _), Nat.sub_self]; rfl
/-- one list more -/
theorem Ls5.pushL (h : Ls5 own W lv vs mv us Lv Lu) (hX : XB own W Lv.length v l) (hb : Lv.length ≤ 1048576) : ∃ (a : Option Addr) (c : Nat) (w' : World) (own' : Nat → Nat), (∀ ty, (Builtin.append_ #[26, 26] ty #[lv, .slice (some ⟨W.heap.size, 0, none⟩) 1 1]).run Tryd.prog (W.alloc (.cells #[v] 35)) = .ok (.slice a (Lv.length + 1) c) w') ∧ Aside (Ls5 own' w' (.slice a (Lv.length + 1) c) (vs ++ [v]) mv us (Lv ++ [l]) Lu ∧ Sn (fun q => q = 5) own W own' w') := by
  obtain ⟨i, hi, hz0, hz1, hz2⟩ := info_parts infoL
  have K : Keeps Nowhere W (W.alloc (.cells #[v] 35)) := (Keeps.refl _ _).alloc _
  have hv1 : v.oneCell' = true := by obtain ⟨a, c, e, _⟩ := hX.shape; rw [e]; rfl
  obtain ⟨u, w', run, o', sp⟩ := run_appendS (P := Tryd.prog) (W.alloc (.cells #[v] 35)) 26 35 i _ 1 24 Tryd.underlying26 hi hz0 hz1 hz2 rfl (by decide) lv vs.length vs (owns_later h.lo.1 K (fun _ _ x => x)) (.slice (some ⟨W.heap.size, 0, none⟩) 1 1) 1 [v] (by decide) (reads_one W v) (by simp [hv1]) (by have := h.n1; omega) (by unfold maxLen; have := h.n1; omega)
  obtain ⟨a, c, rfl⟩ := slice_len o'
  obtain ⟨r1, s⟩ := h.lo.app K o' sp
  rw [h.n1] at run r1
  refine ⟨a, c, w', _, run, ⟨⟨?_, fun k u e => ?_, h.mo.sn s (by decide), fun k u e => (h.ws k u e).sn s (by decide), by rw [List.length_append, List.length_append, h.n1]; rfl, h.n2⟩, s⟩⟩
  · rw [List.length_append, h.n1]; exact r1
  · rcases Nat.lt_trichotomy k vs.length with hj | hj | hj
    · rw [List.getElem?_append_left hj] at e
      rw [getD_app (by rw [← h.n1]; exact hj)]
      exact (h.xs k u e).sn s (by omega)
    · subst hj
      rw [List.getElem?_append_right (Nat.le_refl _)] at e
      simp at e
      subst e
      rw [h.n1, getD_last]
      exact hX.sn s (by omega)
    · rw [List.getElem?_append_right (by omega), List.getElem?_eq_none (by simp; omega)] at e
      cases e
theorem Ls5.pushM (h : Ls5 own W lv vs mv us Lv Lu) (hv : RdO own 7 W v l) (hb : Lu.length ≤ 1048576) : ∃ (a : Option Addr) (c : Nat) (w' : World) (own' : Nat → Nat), (∀ ty, (Builtin.append_ #[26, 26] ty #[mv, .slice (some ⟨W.heap.size, 0, none⟩) 1 1]).run Tryd.prog (W.alloc (.cells #[v] 35)) = .ok (.slice a (Lu.length + 1) c) w') ∧ Aside (Ls5 own' w' lv vs (.slice a (Lu.length + 1) c) (us ++ [v]) Lv (Lu ++ [l]) ∧ Sn (fun q => q = 6) own W own' w') := by
  obtain ⟨i, hi, hz0, hz1, hz2⟩ := info_parts infoL
  have K : Keeps Nowhere W (W.alloc (.cells #[v] 35)) := (Keeps.refl _ _).alloc _
  have hv1 : v.oneCell' = true := by obtain ⟨a, c, e⟩ := hv.shape; rw [e]; rfl
  obtain ⟨u, w', run, o', sp⟩ := run_appendS (P := Tryd.prog) (W.alloc (.cells #[v] 35)) 26 35 i _ 1 24 Tryd.underlying26 hi hz0 hz1 hz2 rfl (by decide) mv us.length us (owns_later h.mo.1 K (fun _ _ x => x)) (.slice (some ⟨W.heap.size, 0, none⟩) 1 1) 1 [v] (by decide) (reads_one W v) (by simp [hv1]) (by have := h.n2; omega) (by unfold maxLen; have := h.n2; omega)
  obtain ⟨a, c, rfl⟩ := slice_len o'
  obtain ⟨r1, s⟩ := h.mo.app K o' sp
  rw [h.n2] at run r1
  refine ⟨a, c, w', _, run, ⟨⟨h.lo.sn s (by decide), fun k u e => (h.xs k u e).sn s (by omega), ?_, fun k u e => ?_, h.n1, by rw [List.length_append, List.length_append, h.n2]; rfl⟩, s⟩⟩
  · rw [List.length_append, h.n2]; exact r1
  · rcases Nat.lt_trichotomy k us.length with hj | hj | hj
    · rw [List.getElem?_append_left hj] at e
      rw [getD_app (by rw [← h.n2]; exact hj)]
      exact (h.ws k u e).sn s (by decide)
    · subst hj
      rw [List.getElem?_append_right (Nat.le_refl _)] at e
      simp at e
      subst e
      rw [h.n2, getD_last]
      exact hv.sn s (by decide)
    · rw [List.getElem?_append_right (by omega), List.getElem?_eq_none (by simp; omega)] at e
      cases e
end
end Go.Proofs.YtfphoaphdfhhiaaDoor
