/-
  PlaceFair's lists, and its world
-/
import Derived.Test.YtnhgpnkomkiniaaDoorPlL
namespace Go.Proofs.YtnhgpnkomkiniaaDoor
open Go.RowKit

variable {A : Nat → Addr} {w w' W w0 : World}

def LoadV.more (z : LoadV) : LoadV := ⟨z.live, z.drain, z.opn + 1, z.left⟩
/-- who got one has at most one more than whoever may take one -/
def Fair (most : Int) (xs : List LoadV) (gs : List Bool) : Prop := ∀ (i j : Nat) (x y : LoadV), gs[i]? = some true → xs[i]? = some x → xs[j]? = some y → y.may most = true → x.opn ≤ y.opn + 1
theorem Fair.none {most : Int} {xs : List LoadV} {n : Nat} : Fair most xs (List.replicate n false) := by
  intro i j x y hg
  rw [List.getElem?_replicate] at hg
  split at hg <;> simp at hg
theorem Fair.next {most : Int} {xs : List LoadV} {gs : List Bool} {k : Nat} {z : LoadV} (h : Fair most xs gs) (hz : xs[k]? = some z) (p : IsPick most xs k) : Fair most (xs.set k z.more) (gs.set k true) := by
  obtain ⟨z', e, m, hp⟩ := p
  rw [hz] at e; cases e
  have hk := (List.getElem?_eq_some_iff.1 hz).1
  intro i j x y hg hx hy hm
  by_cases ei : i = k
  · subst ei
    rw [List.getElem?_set_self hk] at hx; cases hx
    by_cases ej : j = i
    · subst ej
      rw [List.getElem?_set_self hk] at hy; cases hy
      omega
    · rw [List.getElem?_set_ne (fun e => ej e.symm)] at hy
      have := hp j y hy hm
      simp only [LoadV.more]
      omega
  · rw [List.getElem?_set_ne (fun e => ei e.symm)] at hx
    rw [List.getElem?_set_ne (fun e => ei e.symm)] at hg
    by_cases ej : j = k
    · subst ej
      rw [List.getElem?_set_self hk] at hy; cases hy
      have := h i j x z hg hx hz m
      simp only [LoadV.more]
      omega
    · rw [List.getElem?_set_ne (fun e => ej e.symm)] at hy
      exact h i j x y hg hx hy hm
theorem lc_set : ∀ {xs : List LoadV} {k : Nat} {z : LoadV} (_ : xs[k]? = some z), (lc xs).set (k * 4 + 2) (.int .i64 (z.opn + 1)) = lc (xs.set k z.more)
  | [], k, z, h => by simp at h
  | y :: r, 0, z, h => by
    simp only [List.getElem?_cons_zero, Option.some.injEq] at h
    subst h
    rfl
  | y :: r, k + 1, z, h => by
    rw [List.getElem?_cons_succ] at h
    have := lc_set h
    rw [List.set_cons_succ]
    have e1 : lc (y :: r) = y.cells ++ lc r := rfl
    have e2 : lc (y :: r.set k z.more) = y.cells ++ lc (r.set k z.more) := rfl
    rw [e1, e2, List.set_append_right _ _ (by simp; omega), ← this]
    congr 2
    simp
    omega
theorem Bds.more {xs : List LoadV} {k : Nat} {z : LoadV} {most : Int} (h : Bds xs) (hz : xs[k]? = some z) (hm : z.may most = true) (hb : most ≤ 9223372036854775807) : Bds (xs.set k z.more) := by
  intro y hy
  rcases List.mem_or_eq_of_mem_set hy with h1 | h1
  · exact h y h1
  · subst h1
    have h2 := h z (List.mem_of_getElem? hz)
    have h3 : z.opn < most := by
      unfold LoadV.may at hm
      simp only [Bool.and_eq_true, decide_eq_true_eq] at hm
      exact hm.1.2
    simp only [LoadV.more]
    exact ⟨by omega, h2.2⟩
theorem may_lt {most : Int} {z : LoadV} (hm : z.may most = true) : z.opn < most := by
  unfold LoadV.may at hm
  simp only [Bool.and_eq_true, decide_eq_true_eq] at hm
  exact hm.1.2
/-- the loads now, who got one -/
structure Fx (w0 W : World) (a : Option Addr) (N c : Nat) (xs : List LoadV) (gg : Nat) (gs : List Bool) : Prop where
  k : Keeps Nowhere w0 W
  n : xs.length = N
  o : W.ownsRow w0.heap.size 23 4 (.slice a N c) N (lc xs)
  b : w0.heap.size ≤ gg
  a : Cells W gg 4 (gs.map .bool)
  m : gs.length = N
  bd : Bds xs
variable {a : Option Addr} {N c gg : Nat} {xs : List LoadV} {gs : List Bool}
theorem Fx.quiet (h : Fx w0 W a N c xs gg gs) (k : Keeps Nowhere W w') : Fx w0 w' a N c xs gg gs := ⟨h.k.trans k, h.n, owns_later h.o k (fun _ _ x => x), h.b, h.a.later k (fun x => x), h.m, h.bd⟩
theorem Fx.lds (h : Fx w0 W a N c xs gg gs) : LdsAt W (.slice a N c) xs := lds_of_reads (owns_readsK h.o) h.bd
theorem Fx.nil (h : Fx w0 W a N c xs gg gs) : ∀ l c', Value.slice a N c = .slice none l c' → c' = 0 := by
  intro l c' e
  injection e with e1 e2 e3
  rcases h.o.2 with ⟨e', _⟩ | ⟨g, cap, cur, e', _⟩
  · injection e' with _ _ e'; omega
  · injection e' with e'; rw [e1] at e'; cases e'
theorem Fx.ne (h : Fx w0 W a N c xs gg gs) : (Value.slice a N c).ownBlock ≠ some gg := owns_ne h.o h.a (by decide)
/-- the k-th gets a stream -/
theorem Fx.put {k : Nat} {z : LoadV} {most : Int} (h : Fx w0 W a N c xs gg gs) (hz : xs[k]? = some z) (hm : z.may most = true) (hb : most ≤ 9223372036854775807) :
    ∃ g, a = some ⟨g, 0, none⟩ ∧ W.cell? ⟨g, k * 4 + 2, none⟩ = some (.int .i64 z.opn) ∧ W.frozen? ⟨g, k * 4 + 2, none⟩ = false ∧ Fx w0 (W.setCell ⟨g, k * 4 + 2, none⟩ (.int .i64 (z.opn + 1))) a N c (xs.set k z.more) gg gs := by
  have hk := (List.getElem?_eq_some_iff.1 hz).1
  have hkN : k < N := by rw [← h.n]; exact hk
  rcases h.o.2 with ⟨_, e⟩ | ⟨g, cap, cur, e, _⟩
  · omega
  · injection e with e1 e2 e3
    subst e1
    have hne := h.ne
    have K : Keeps (fun b => b = g) W (W.setCell ⟨g, k * 4 + 2, none⟩ (.int .i64 (z.opn + 1))) := (Keeps.refl _ _).setCell _ _ (fun _ => rfl)
    refine ⟨g, rfl, ?_, owns_frozen h.o _, ⟨h.k.next K (fun b e hlt => ?_), by rw [List.length_set]; exact h.n, ?_, h.b, h.a.later K (fun e => hne (by rw [e]; rfl)), h.m, h.bd.more hz hm hb⟩⟩
    · have := h.o.cells rfl (k * 4 + 2) _ ((lc_at hz 2 (by decide)).trans rfl)
      rwa [add_none, Nat.zero_add] at this
    · have := owns_base h.o g rfl
      omega
    · have := owns_setCell h.o (k * 4 + 2) (by omega) (.int .i64 (z.opn + 1))
      rwa [lc_set hz] at this
theorem Fx.mark {k : Nat} (h : Fx w0 W a N c xs gg gs) (hk : k < N) : (∃ u, W.cell? ⟨gg, k, none⟩ = some u) ∧ W.frozen? ⟨gg, k, none⟩ = false ∧ Fx w0 (W.setCell ⟨gg, k, none⟩ (.bool true)) a N c xs gg (gs.set k true) := by
  have K : Keeps (fun b => b = gg) W (W.setCell ⟨gg, k, none⟩ (.bool true)) := (Keeps.refl _ _).setCell _ _ (fun _ => rfl)
  refine ⟨⟨.bool (gs[k]'(by rw [h.m]; exact hk)), ?_⟩, h.a.frozen k, ⟨h.k.next K (fun b e hlt => by have := h.b; omega), h.n, owns_later h.o K (fun b hb e => h.ne (by rw [hb, e])), h.b, ?_, by rw [List.length_set]; exact h.m, h.bd⟩⟩
  · rw [h.a.cell, List.getElem?_map, List.getElem?_eq_getElem (by rw [h.m]; exact hk)]; rfl
  · have := h.a.setCell k (.bool true)
    rwa [← List.map_set] at this
theorem Fx.got {i : Nat} (h : Fx w0 W a N c xs gg gs) (hi : i < N) : ∃ b, gs[i]? = some b ∧ W.cell? ⟨gg, i, none⟩ = some (.bool b) := by
  refine ⟨gs[i]'(by rw [h.m]; exact hi), List.getElem?_eq_getElem _, ?_⟩
  rw [h.a.cell, List.getElem?_map, List.getElem?_eq_getElem (by rw [h.m]; exact hi)]; rfl
theorem fx_begin {zs : List LoadV} (h : Lr w0 W (.slice a N c) zs) (hb : Bds zs) (hN : zs.length = N) (h2 : N ≤ 200) : ∃ w', Aside (MakeRun Tryd.prog 38 N W (.slice (some ⟨W.heap.size, 0, none⟩) N N) w') ∧ Aside (Fx w0 w' a N c zs W.heap.size (List.replicate N false)) := by
  obtain ⟨i, hi, hz0, hz1, hz2⟩ := info_parts (P := Tryd.prog) (e := 4) (z := .bool false) (size := 1) (bytes := 1) (by kernel_rfl)
  obtain ⟨w', run, c, k, _⟩ := run_makeK (P := Tryd.prog) W 38 4 i _ Tryd.underlying38 hi hz0 hz1 rfl N (by rw [hz2]; omega) (by omega)
  have h' := h.quiet k
  have o := h'.o
  rw [hN] at o
  exact ⟨w', ⟨⟨run⟩⟩, ⟨h'.k, hN, o, h.k.size, by rw [List.map_replicate]; exact c, by simp, hb⟩⟩
end Go.Proofs.YtnhgpnkomkiniaaDoor
