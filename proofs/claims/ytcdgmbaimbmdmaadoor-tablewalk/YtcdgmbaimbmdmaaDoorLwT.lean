/-
  culvertlaw15.step: what lies in memory within a step
-/
import Derived.Test.YtcdgmbaimbmdmaaDoorDcD
import Derived.Test.YtcdgmbaimbmdmaaDoorLwW
import Derived.Test.YtcdgmbaimbmdmaaDoorLwC
import Derived.Test.YtcdgmbaimbmdmaaDoorOpenTb
namespace Go.Proofs.YtcdgmbaimbmdmaaDoor
open Go.RowKit Tbint

variable {A : Nat → Addr} {w w' W w0 : World} {own own' : Nat → Nat} {i p : Nat} {room : Int} {L L' : Tl Int} {v v' : Value} {I : Nat → Prop} {b : Nat} {z : OpV15}

/-- a table (owner i) and the document's (owner 9) -/
structure Tp (own : Nat → Nat) (i : Nat) (W : World) (p : Nat) (room : Int) (L : Tl Int) (v : Value) : Prop where
  t : TbO own i W p room L
  d : RdD own W v L
theorem Tp.sn (h : Tp own i W p room L v) (s : Sn I own W own' w') (h1 : ¬ I i) (h2 : ¬ I 9) : Tp own' i w' p room L v := ⟨h.t.sn s h1, h.d.sn s h2⟩
theorem Tp.quiet (h : Tp own i W p room L v) (hk : Keeps Nowhere W w') : Tp own i w' p room L v := ⟨h.t.quiet hk, h.d.quiet hk⟩

/-- within a step: the boxes are owner 8's -/
structure Si (own : Nat → Nat) (i : Nat) (W : World) (p : Nat) (room : Int) (b : Nat) (z : OpV15) (v : Value) : Prop where
  c0 : CellsO own 8 W b 31 [.int .i64 room, v]
  c1 : CellsO own 8 W (b + 1) 38 z.cells
  c2 : ∃ r0 r1, CellsO own 8 W (b + 1 + 1) 31 [r0, r1]
theorem Si.sn (h : Si own i W p room b z v) (s : Sn I own W own' w') (hi : ¬ I 8) : Si own' i w' p room b z v := by
  obtain ⟨r0, r1, h2⟩ := h.c2
  exact ⟨h.c0.sn s hi, h.c1.sn s hi, r0, r1, h2.sn s hi⟩
theorem Si.cells (h : Si own i W p room b z v) : W.cell? ⟨b, 0, none⟩ = some (.int .i64 room) ∧ W.cell? ⟨b, 1, none⟩ = some v ∧ W.cell? ⟨b + 1, 0, none⟩ = some (.int .i64 z.kind) ∧ W.cell? ⟨b + 1, 1, none⟩ = some (.int .u32 (z.id : Nat)) ∧ W.cell? ⟨b + 1, 2, none⟩ = some (.int .i64 z.v) ∧ (∃ r0, W.cell? ⟨b + 1 + 1, 0, none⟩ = some r0) ∧ (∃ r1, W.cell? ⟨b + 1 + 1, 1, none⟩ = some r1) ∧ W.frozen? ⟨b + 1 + 1, 0, none⟩ = false ∧ W.frozen? ⟨b + 1 + 1, 1, none⟩ = false := by
  obtain ⟨r0, r1, h2⟩ := h.c2
  exact ⟨by rw [h.c0.1.cell]; rfl, by rw [h.c0.1.cell]; rfl, by rw [h.c1.1.cell]; rfl, by rw [h.c1.1.cell]; rfl, by rw [h.c1.1.cell]; rfl, ⟨r0, by rw [h2.1.cell]; rfl⟩, ⟨r1, by rw [h2.1.cell]; rfl⟩, h2.1.frozen 0, h2.1.frozen 1⟩

/-- what a step leaves -/
def Ends15 (own : Nat → Nat) (i : Nat) (w : World) (p : Nat) (room : Int) (e : Ending) (w' : World) : Prop :=
  ∃ v' L' own', e = .returned (.tuple #[.agg #[.int .i64 room, v'], .bool true]) ∧ Aside (Tp own' i w' p room L' v' ∧ Sn (fun k => k = i) own w own' w')

/-- the step's memory, above the caller's world w -/
structure Sx (own : Nat → Nat) (i : Nat) (w : World) (own' : Nat → Nat) (W : World) (p : Nat) (room : Int) (L : Tl Int) (b : Nat) (z : OpV15) (v0 v : Value) : Prop where
  t : Tp own' i W p room L v
  s : Si own' i W p room b z v0
  n : Sn (fun k => k = i) own w own' W
  b : w.heap.size ≤ b
theorem Sx.table (h : Sx own i w own' W p room L b z v' v) {own2 : Nat → Nat} (h1 : TbO own2 i w' p room L') (s : Sn (fun k => k = i) own' W own2 w') (hi : i ≠ 8 ∧ i ≠ 9) (hd : RdD own2 w' v L') : Sx own i w own2 w' p room L' b z v' v :=
  ⟨⟨h1, hd⟩, h.s.sn s (fun e => hi.1 e.symm), h.n.trans s, h.b⟩
theorem Sx.end (h : Sx own i w own' W p room L b z v' v) (hi : i ≠ 8 ∧ i ≠ 9) {e : Ending} {u : Value} (he : e = .returned u) (hu : u = .tuple #[.agg #[.int .i64 room, v], .bool true]) :
    Ends15 own i w p room e ((W.setCell ⟨b + 1 + 1, 0, none⟩ (.int .i64 room)).setCell ⟨b + 1 + 1, 1, none⟩ v) := by
  obtain ⟨r0, r1, h2⟩ := h.s.c2
  have s8 : Sn (fun k => k = 8) own' W own' ((W.setCell ⟨b + 1 + 1, 0, none⟩ (.int .i64 room)).setCell ⟨b + 1 + 1, 1, none⟩ v) := ⟨fun _ _ => rfl, ((Keeps.refl _ _).setCell _ _ (fun _ => h2.2)).setCell _ _ (fun _ => h2.2)⟩
  refine ⟨v, L, own', by rw [he, hu], ⟨h.t.sn s8 hi.1 (by decide), ⟨h.n.agree, ?_⟩⟩⟩
  exact h.n.keeps.next (S' := fun k => k = b + 1 + 1) (((Keeps.refl (fun k => k = b + 1 + 1) W).setCell ⟨b + 1 + 1, 0, none⟩ _ (fun _ => rfl)).setCell ⟨b + 1 + 1, 1, none⟩ _ (fun _ => rfl)) (fun k e hlt => by have := h.b; omega)
theorem Sx.quiet (h : Sx own i w own' W p room L b z v' v) (hk : Keeps Nowhere W w') : Sx own i w own' w' p room L b z v' v :=
  ⟨h.t.quiet hk, h.s.sn (I := fun _ => False) (Sn.same hk) (fun x => x), h.n.trans ((Sn.same hk)), h.b⟩
theorem Sx.step (h : Sx own i w own' W p room L b z v' v) (hk : Keeps Nowhere W w') (r : Nat) : Sx own i w (give own' W.heap.size r) w' p room L b z v' v :=
  ⟨h.t.sn (I := fun _ => False) (Sn.quiet hk r) (fun x => x) (fun x => x), h.s.sn (I := fun _ => False) (Sn.quiet hk r) (fun x => x), h.n.trans ((Sn.quiet hk r)), h.b⟩

theorem Sx.start (h : Tp own i w p room L v) (z : OpV15) : Sx own i w (give own w.heap.size 8) (((w.alloc (.cells #[.int .i64 room, v] 31)).alloc (.cells #[.int .i64 z.kind, .int .u32 (z.id : Nat), .int .i64 z.v] 38)).alloc (.cells #[.int .i64 0, .slice none 0 0] 31)) p room L w.heap.size z v v := by
  have K : Keeps Nowhere w (((w.alloc (.cells #[.int .i64 room, v] 31)).alloc (.cells #[.int .i64 z.kind, .int .u32 (z.id : Nat), .int .i64 z.v] 38)).alloc (.cells #[.int .i64 0, .slice none 0 0] 31)) := (((Keeps.refl _ _).alloc _).alloc _).alloc _
  refine ⟨h.sn (I := fun _ => False) (Sn.quiet K 8) (fun x => x) (fun x => x), ⟨⟨?_, give_new (by omega)⟩, ⟨?_, give_new (by omega)⟩, .int .i64 0, .slice none 0 0, ⟨?_, give_new (by omega)⟩⟩, Sn.quiet K 8, Nat.le_refl _⟩
  · exact (Cells.new w _ [.int .i64 room, v]).later (S := Nowhere) (((Keeps.refl _ _).alloc _).alloc _) (fun x => x)
  · have h := Cells.new (w.alloc (.cells #[.int .i64 room, v] 31)) 38 z.cells
    rw [World.size_alloc] at h
    exact h.later (S := Nowhere) ((Keeps.refl _ _).alloc _) (fun x => x)
  · have h := Cells.new ((w.alloc (.cells #[.int .i64 room, v] 31)).alloc (.cells #[.int .i64 z.kind, .int .u32 (z.id : Nat), .int .i64 z.v] 38)) 31 [.int .i64 0, .slice none 0 0]
    rw [World.size_alloc, World.size_alloc] at h
    exact h

/-- what a step reads -/
theorem Sx.h5 (h : Aside (Sx own i w own' W p room L b z v' v)) : W.cell? ⟨b, 0, none⟩ = some (.int .i64 room) ∧ W.cell? ⟨b, 1, none⟩ = some v' ∧ W.cell? ⟨b + 1, 0, none⟩ = some (.int .i64 z.kind) ∧ W.cell? ⟨b + 1, 1, none⟩ = some (.int .u32 (z.id : Nat)) ∧ W.cell? ⟨b + 1, 2, none⟩ = some (.int .i64 z.v) := by
  obtain ⟨h0, h1, h2, h3, h4, _⟩ := h.it.s.cells
  exact ⟨h0, h1, h2, h3, h4⟩
theorem Sx.h5S (h : Aside (Sx own i w own' W p room L b z v' v)) {x y : Value} : ((W.setCell ⟨b + 1 + 1, 0, none⟩ x).setCell ⟨b + 1 + 1, 1, none⟩ y).cell? ⟨b, 0, none⟩ = some (.int .i64 room) ∧ ((W.setCell ⟨b + 1 + 1, 0, none⟩ x).setCell ⟨b + 1 + 1, 1, none⟩ y).cell? ⟨b, 1, none⟩ = some v' ∧ ((W.setCell ⟨b + 1 + 1, 0, none⟩ x).setCell ⟨b + 1 + 1, 1, none⟩ y).cell? ⟨b + 1, 0, none⟩ = some (.int .i64 z.kind) ∧ ((W.setCell ⟨b + 1 + 1, 0, none⟩ x).setCell ⟨b + 1 + 1, 1, none⟩ y).cell? ⟨b + 1, 1, none⟩ = some (.int .u32 (z.id : Nat)) ∧ ((W.setCell ⟨b + 1 + 1, 0, none⟩ x).setCell ⟨b + 1 + 1, 1, none⟩ y).cell? ⟨b + 1, 2, none⟩ = some (.int .i64 z.v) := by
  have e0 := (h.it.s.c0.1.setOther ⟨b + 1 + 1, 0, none⟩ x (by simp; omega)).setOther ⟨b + 1 + 1, 1, none⟩ y (by simp; omega)
  have e1 := (h.it.s.c1.1.setOther ⟨b + 1 + 1, 0, none⟩ x (by simp)).setOther ⟨b + 1 + 1, 1, none⟩ y (by simp)
  exact ⟨by rw [e0.cell]; rfl, by rw [e0.cell]; rfl, by rw [e1.cell]; rfl, by rw [e1.cell]; rfl, by rw [e1.cell]; rfl⟩
theorem Sx.res (h : Aside (Sx own i w own' W p room L b z v' v)) : ∃ r0 r1, W.cell? ⟨b + 1 + 1, 0, none⟩ = some r0 ∧ W.cell? ⟨b + 1 + 1, 1, none⟩ = some r1 ∧ W.frozen? ⟨b + 1 + 1, 0, none⟩ = false ∧ W.frozen? ⟨b + 1 + 1, 1, none⟩ = false := by
  obtain ⟨r0, r1, h2⟩ := h.it.s.c2
  exact ⟨r0, r1, by rw [h2.1.cell]; rfl, by rw [h2.1.cell]; rfl, h2.1.frozen 0, h2.1.frozen 1⟩
theorem Sx.fin (h : Aside (Sx own i w own' W p room L b z v' v)) (hi : i ≠ 8 ∧ i ≠ 9) : ((W.setCell ⟨b + 1 + 1, 0, none⟩ (.int .i64 room)).setCell ⟨b + 1 + 1, 1, none⟩ v).cell? ⟨b + 1 + 1, 0, none⟩ = some (.int .i64 room) ∧ ((W.setCell ⟨b + 1 + 1, 0, none⟩ (.int .i64 room)).setCell ⟨b + 1 + 1, 1, none⟩ v).cell? ⟨b + 1 + 1, 1, none⟩ = some v ∧ Aside (Ends15 own i w p room (.returned (.tuple #[.agg #[.int .i64 room, v], .bool true])) ((W.setCell ⟨b + 1 + 1, 0, none⟩ (.int .i64 room)).setCell ⟨b + 1 + 1, 1, none⟩ v)) := by
  obtain ⟨r0, r1, h2⟩ := h.it.s.c2
  have e2 := (h2.1.setCell 0 (.int .i64 room)).setCell 1 v
  exact ⟨by rw [e2.cell]; rfl, by rw [e2.cell]; rfl, ⟨h.it.end hi rfl rfl⟩⟩

theorem sx_len (h : Aside (Sx own i w own' W p room L b z v' v)) : Calls Tryd.prog 19 #[ptr p] W fun e w' => e = .returned (.int .i64 L.length) ∧ Aside (Sx own i w own' w' p room L b z v' v) := by
  refine (len_at h.it.t.t).mono ?_
  rintro e w' ⟨rfl, rfl⟩
  exact ⟨rfl, h⟩
theorem sx_ids (h : Aside (Sx own i w own' W p room L b z v' v)) : Calls Tryd.prog 14 #[ptr p] W fun e w' => ∃ g cap, e = .returned (.slice (some ⟨g, 0, none⟩) L.length cap) ∧ Aside (RdU w' (.slice (some ⟨g, 0, none⟩) L.length cap) (ks L)) ∧ Aside (Sx own i w own' w' p room L b z v' v) := by
  refine (ids_at h.it.t.t).mono ?_
  rintro e w' ⟨g, cap, rfl, _, R, K⟩
  exact ⟨g, cap, rfl, ⟨owns_rdU R.it⟩, ⟨h.it.quiet K.it⟩⟩
theorem sx_dids (h : Aside (Sx own i w own' W p room L b z v' v)) {u : Value} {l : List Nat} (hu : Aside (RdU W u l)) : Calls Tryd.prog 20 #[.agg #[.int .i64 room, v]] W fun e w' => ∃ v2, e = .returned v2 ∧ Aside (RdU w' v2 (ks L)) ∧ Aside (RdU w' u l) ∧ Aside (Sx own i w own' w' p room L b z v' v) := by
  refine (dids room h.it.t.d (up_len h.it.t.t.up)).mono ?_
  rintro e w' ⟨v2, rfl, R, K⟩
  exact ⟨v2, rfl, R, ⟨hu.it.quiet K.it⟩, ⟨h.it.quiet K.it⟩⟩
theorem sx_same (h : Aside (Sx own i w own' W p room L b z v' v)) {a c : Value} {l : List Nat} (ha : Aside (RdU W a l)) (hc : Aside (RdU W c l)) : Calls Tryd.prog 13 #[a, c] W fun e w' => e = .returned (.bool true) ∧ Aside (Sx own i w own' w' p room L b z v' v) := by
  refine (same_ids a c l ha.it hc.it).mono ?_
  rintro e w' ⟨rfl, K⟩
  exact ⟨rfl, ⟨h.it.quiet K.it⟩⟩
theorem sx_walked (h : Aside (Sx own i w own' W p room L b z v' v)) (a1 : Int) : Calls Tryd.prog 9 #[ptr p, .agg #[.int .i64 a1, v]] W fun e w' => e = .returned (.bool true) ∧ Aside (Sx own i w own' w' p room L b z v' v) := by
  refine (walked_ok W a1 h.it.t.t h.it.t.d).mono ?_
  rintro e w' ⟨rfl, K⟩
  exact ⟨rfl, ⟨h.it.quiet K.it⟩⟩
theorem sx_counts (h : Aside (Sx own i w own' W p room L b z v' v)) (a1 kd : Int) (lo : Nat) (m : Int) : Calls Tryd.prog 21 #[ptr p, .agg #[.int .i64 a1, v], .agg #[.int .i64 kd, .int .u32 (lo : Nat), .int .i64 m]] W fun e w' => e = .returned (.bool true) ∧ Aside (Sx own i w own' w' p room L b z v' v) := by
  refine (counts_ok a1 kd lo m W h.it.t.t h.it.t.d).mono ?_
  rintro e w' ⟨rfl, K⟩
  exact ⟨rfl, ⟨h.it.quiet K.it⟩⟩
theorem sx_none (h : Aside (Sx own i w own' W p room L b z v' v)) : Calls Tryd.prog 23 #[ptr p, .nilFunc] W fun e w' => e = .returned (.int .i64 0) ∧ Aside (Sx own i w own' w' p room L b z v' v) := by
  refine (count_none (ptr p) W).mono ?_
  rintro e w' ⟨rfl, K⟩
  exact ⟨rfl, ⟨h.it.quiet K.it⟩⟩
end Go.Proofs.YtcdgmbaimbmdmaaDoor
