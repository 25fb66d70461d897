/-
  package backlog: what a Backlog is in memory; parts, New
-/
import Derived.Test.YtolmiecbgkdlfaaDoorFifoDuint32
import Derived.Test.YtolmiecbgkdlfaaDoorBqFbrm
import Derived.Test.YtolmiecbgkdlfaaDoorBqFbcl
import Derived.Test.YtolmiecbgkdlfaaDoorSn
import Derived.Test.YtolmiecbgkdlfaaDoorCodedZ
namespace Go.Proofs.YtolmiecbgkdlfaaDoor
open Go.RowKit Fuint32

variable {A : Nat → Addr} {w w' W w0 : World} {own own' : Nat → Nat} {i p fp most : Nat} {L L' : List Nat} {v v' : Value} {first : Nat} {gone : List Value} {I : Nat → Prop}

def qn (L : List Nat) : List (Nat × Nat) := L.map fun x => (x, 0)
theorem qn_len (L : List Nat) : (qn L).length = L.length := by simp [qn]
theorem qn_sum (L : List Nat) : sumW (qn L) = 0 := by
  induction L with
  | nil => rfl
  | cons x L ih => rw [show qn (x :: L) = (x, 0) :: qn L from rfl, sumW_cons, ih]
theorem qn_snoc (L : List Nat) (x : Nat) : qn L ++ [(x, 0)] = qn (L ++ [x]) := by simp [qn]
theorem qn_filter (f : Nat → Bool) (L : List Nat) : (qn L).filter (fun x => !f x.1) = qn (L.filter (fun x => !f x)) := by
  rw [qn, qn, List.filter_map]
  rfl
theorem qn_count (f : Nat → Bool) (L : List Nat) : (qn L).countP (fun x => f x.1) = L.countP f := by
  rw [qn, List.countP_map]
  rfl

structure BkI (w : World) (p fp most : Nat) (L : List Nat) (v : Value) (first : Nat) (gone : List Value) : Prop where
  box : Cells w p 53 [ptr fp]
  q : FifoIn w fp most 0 (qn L) v first gone
  half : first ≤ L.length
  top : most ≤ 1024
/-- a Backlog whose blocks are i's -/
def BkO (own : Nat → Nat) (i : Nat) (w : World) (p most : Nat) (L : List Nat) : Prop :=
  ∃ fp v first gone, BkI w p fp most L v first gone ∧ own p = i ∧ ∀ k, Fuint32.Own fp v k → own k = i
theorem BkO.sn (h : BkO own i w p most L) (s : Sn I own w own' w') (hi : ¬ I i) : BkO own' i w' p most L := by
  obtain ⟨fp, v, f, g, h, hp, ho⟩ := h
  refine ⟨fp, v, f, g, ⟨h.box.later s.keeps (fun e => hi (by rw [← hp]; exact e)), h.q.later s.keeps (fun k hk e => hi (by rw [← ho k hk]; exact e)), h.half, h.top⟩, (s.agree p h.box.lt).trans hp, fun k hk => (s.agree k (h.q.lt k hk)).trans (ho k hk)⟩
theorem BkO.quiet (h : BkO own i w p most L) (hk : Keeps Nowhere w w') : BkO own i w' p most L := h.sn (I := fun _ => False) (Sn.same hk) (fun x => x)
theorem BkO.step (h : BkO own i w p most L) (hk : Keeps Nowhere w w') (r : Nat) : BkO (give own w.heap.size r) i w' p most L := h.sn (I := fun _ => False) (Sn.quiet hk r) (fun x => x)
theorem BkO.len (h : BkO own i w p most L) : L.length ≤ most ∧ most ≤ 1024 := by
  obtain ⟨fp, v, f, g, h, _⟩ := h
  have := h.q.things
  rw [qn_len] at this
  exact ⟨this, h.top⟩
theorem cells_ne {p p' : Nat} {e e' : TypeId} {ys zs : List Value} (h : Cells W p e ys) (h' : Cells W p' e' zs) (hne : e ≠ e') : p ≠ p' := by
  rintro rfl
  have := Option.some.inj ((show W.heap[p]? = _ from h).symm.trans h')
  injection this with _ e2
  exact hne e2
/-- the queue has changed -/
theorem BkI.done (h : BkI w p fp most L v first gone) (hp : own p = i) (ho : ∀ k, Fuint32.Own fp v k → own k = i) {f' : Nat} {g' : List Value} (hq : FifoIn w' fp most 0 (qn L') v' f' g') (hf : f' ≤ L'.length) (hv : ∀ k, v'.ownBlock = some k → v.ownBlock = some k ∨ w.heap.size ≤ k) (hk : Keeps (Fuint32.Own fp v) w w') :
    BkO (give own w.heap.size i) i w' p most L' ∧ Sn (fun k => k = i) own w (give own w.heap.size i) w' := by
  have hne : ¬ Fuint32.Own fp v p := by
    rintro (e | e)
    · subst e
      have h1 := h.box
      have h2 := h.q.cells
      exact cells_ne h1 h2 (by decide) rfl
    · exact owns_ne h.q.row h.box (by decide) e
  refine ⟨⟨fp, v', f', g', ⟨h.box.later hk hne, hq, hf, h.top⟩, (give_old h.box.lt).trans hp, ?_⟩, ⟨fun k hlt => give_old hlt, hk.mono (fun k e _ => ho k e)⟩⟩
  rintro k (e | e)
  · subst e
    exact (give_old (h.q.lt k (.inl rfl))).trans (ho k (.inl rfl))
  · rcases hv k e with e | e
    · exact (give_old (h.q.lt k (.inr e))).trans (ho k (.inr e))
    · exact give_new e

theorem bk_f0 (a : Option Addr) (w : World) : Sem.run Tryd.prog (Instr.field 53 (.agg #[.pointer a]) 0) w = .ok (.pointer a) w := by kernel_rfl
/-- what parts answers: the queue, or nil -/
def Pt (w : World) (x : Value) (fv : Option Addr) : Prop := ∀ W, Keeps Nowhere w W → Calls Tryd.prog 28 #[x] W fun e w' => e = .returned (.agg #[.pointer fv]) ∧ Aside (Keeps Nowhere W w')
theorem Pt.nil (w : World) : Pt w (.pointer none) none := by
  intro W _
  go_enter Tryd.func28, Tryd.ntmps28
  go_wp2
  have c := (Cells.new W 53 [.pointer none]).cell 0
  refine bodyPost_ret (v := .agg #[.pointer none]) (by simp [results, Tryd.f28, go_sem, c]) rfl ?_
  exact ⟨rfl, ⟨(Keeps.refl _ _).alloc _⟩⟩
theorem Pt.at (h : Cells w p 53 [ptr fp]) : Pt w (ptr p) (some ⟨fp, 0, none⟩) := by
  intro W k
  have c := (h.later k (fun x => x)).cell 0
  have c0 : W.cell? ⟨p, 0, none⟩ = some (ptr fp) := c
  have a0 := alloc_cell (W := W) (Obj.cells #[.pointer none] 53) (a := ⟨p, 0, none⟩) c0
  clear c h k
  go_enter Tryd.func28, Tryd.ntmps28
  go_wp2
  have c := (Cells.new W 53 [ptr fp]).cell 0
  refine bodyPost_ret (v := .agg #[ptr fp]) (by simp [results, Tryd.f28, go_sem, c]) rfl ?_
  exact ⟨rfl, ⟨(Keeps.refl _ _).alloc _⟩⟩

theorem bnew_no (n : Int) (w : World) (er : Value) (hc : w.cell? ⟨0, 0, none⟩ = some er) (h : n < 1 ∨ 1024 < n) : Calls Tryd.prog 7 #[.int .i64 n] w fun e w' => e = .returned (.tuple #[.pointer none, er]) ∧ Aside (Keeps Nowhere w w') := by
  rcases Int.lt_or_le n 1 with h1 | h1
  · clear h
    go_enter Tryd.func7, Tryd.ntmps7
    go_wp2_with fail
    go_region_held_law (fun w' => w'.cell? ⟨0, 0, none⟩ = some er) (exact hc) (fail)
    go_wp2
    go_ret2
    exact ⟨rfl, ⟨(Keeps.refl _ _).drew⟩⟩
  · have h2 : 1024 < n := by omega
    clear h
    go_enter Tryd.func7, Tryd.ntmps7
    go_wp2_with fail
    go_region_held_law (fun w' => w'.cell? ⟨0, 0, none⟩ = some er) (exact hc) (fail)
    go_wp2
    go_ret2
    exact ⟨rfl, ⟨(Keeps.refl _ _).drew⟩⟩
theorem bnew_ok (n : Nat) (h1 : 1 ≤ n) (h2 : n ≤ 1024) (w : World) (own : Nat → Nat) (i : Nat) : Calls Tryd.prog 7 #[.int .i64 n] w fun e w' => ∃ p, e = .returned (.tuple #[ptr p, .nilIface]) ∧ Aside (BkO (give own w.heap.size i) i w' p n []) ∧ Aside (w.heap.size ≤ p) ∧ Aside (Keeps Nowhere w w') := by
  have N := Aside.mk (new_good w n 0 (by omega) (by omega))
  have h1' : ¬ (n : Int) < 1 := by omega
  have h2' : ¬ (1024 : Int) < n := by omega
  have H2 := Aside.mk h2
  clear h1 h2
  go_enter Tryd.func7, Tryd.ntmps7
  go_wp2_with (go_at_call 21; refine N.it.mono ?_; rintro e w1 ⟨rfl, F1, K1⟩; have F1 := Aside.mk F1; have K1 := Aside.mk K1)
  go_ret2
  refine ⟨w1.heap.size, rfl, ⟨w.heap.size, .slice none 0 0, 0, [], ⟨Cells.new w1 _ _, F1.it.later ((Keeps.refl Nowhere w1).alloc _) (fun _ _ x => x), Nat.le_refl _, H2.it⟩, give_new K1.it.size, ?_⟩, ⟨K1.it.size⟩, ⟨K1.it.alloc _⟩⟩
  rintro k (e | e)
  · exact give_new (by omega)
  · cases e
end Go.Proofs.YtolmiecbgkdlfaaDoor
