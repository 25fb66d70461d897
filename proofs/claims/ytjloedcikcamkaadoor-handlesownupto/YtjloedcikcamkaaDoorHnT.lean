/-
  culvertlaw22.step: what lies in memory within a step
-/
import Derived.Test.YtjloedcikcamkaaDoorHnQ
import Derived.Test.YtjloedcikcamkaaDoorHnS
import Derived.BigRegion
import Derived.Deep.RegionHeldLaw
import Derived.Deep.RegionHeld3
namespace Go.Proofs.YtjloedcikcamkaaDoor
open Go.RowKit

variable {A : Nat → Addr} {w w' W w0 : World} {own own' own2 : Nat → Nat} {i p g g' : Nat} {L L' : Hl} {v v' vd : Value} {I : Nat → Prop} {b : Nat} {z : OpV22}

/-- a Handles (owner i) and the document's (owner 9) -/
structure Hp (own : Nat → Nat) (i : Nat) (W : World) (p g : Nat) (L : Hl) (v : Value) : Prop where
  t : HnO own i W p g L
  d : RdH own W v L
theorem Hp.sn (h : Hp own i W p g L v) (s : Sn I own W own' w') (h1 : ¬ I i) (h2 : ¬ I 9) : Hp own' i w' p g L v := ⟨h.t.sn s h1, h.d.sn s h2⟩
theorem Hp.quiet (h : Hp own i W p g L v) (hk : Keeps Nowhere W w') : Hp own i w' p g L v := ⟨h.t.quiet hk, h.d.quiet hk⟩

abbrev Bxs := List (Nat × TypeId × List Value)
/-- the step's memory, above the caller's world w: the boxes are owner 8's; the program's Handles holds L, the document's next rows vd hold Ld -/
structure Sh (own : Nat → Nat) (i : Nat) (w : World) (own' : Nat → Nat) (W : World) (p g : Nat) (L : Hl) (b : Nat) (z : OpV22) (g0 : Nat) (v0 vd : Value) (Ld : Hl) (X : Bxs) : Prop where
  h : HnO own' i W p g L
  d : RdH own' W vd Ld
  c0 : CellsO own' 8 W b 28 [.int .i64 g0, v0]
  c1 : CellsO own' 8 W (b + 1) 35 z.cells
  c2 : ∃ r0 r1, CellsO own' 8 W (b + 1 + 1) 28 [r0, r1]
  x : ∀ e ∈ X, CellsO own' 8 W e.1 e.2.1 e.2.2 ∧ e.1 ≠ b + 1 + 1
  n : Sn (fun k => k = i) own w own' W
  b : w.heap.size ≤ b
variable {g0 : Nat} {v0 : Value} {Ld : Hl} {X : Bxs}
theorem Sh.quiet (h : Sh own i w own' W p g L b z g0 v0 vd Ld X) (hk : Keeps Nowhere W w') : Sh own i w own' w' p g L b z g0 v0 vd Ld X := by
  have s : Sn (fun _ => False) own' W own' w' := Sn.same hk
  obtain ⟨r0, r1, h2⟩ := h.c2
  exact ⟨h.h.quiet hk, h.d.quiet hk, h.c0.sn s (fun x => x), h.c1.sn s (fun x => x), ⟨r0, r1, h2.sn s (fun x => x)⟩, fun e he => ⟨(h.x e he).1.sn s (fun x => x), (h.x e he).2⟩, h.n.trans (Sn.same hk), h.b⟩
theorem Sh.step (h : Sh own i w own' W p g L b z g0 v0 vd Ld X) (hk : Keeps Nowhere W w') (r : Nat) : Sh own i w (give own' W.heap.size r) w' p g L b z g0 v0 vd Ld X := by
  have s : Sn (fun _ => False) own' W (give own' W.heap.size r) w' := Sn.quiet hk r
  obtain ⟨r0, r1, h2⟩ := h.c2
  exact ⟨h.h.sn s (fun x => x), h.d.sn s (fun x => x), h.c0.sn s (fun x => x), h.c1.sn s (fun x => x), ⟨r0, r1, h2.sn s (fun x => x)⟩, fun e he => ⟨(h.x e he).1.sn s (fun x => x), (h.x e he).2⟩, h.n.trans (Sn.quiet hk r), h.b⟩
/-- the program's Handles moves -/
theorem Sh.move (h : Sh own i w own' W p g L b z g0 v0 vd Ld X) (h1 : HnO own2 i w' p g' L') (s : Sn (fun k => k = i) own' W own2 w') (hi : i ≠ 8 ∧ i ≠ 9) : Sh own i w own2 w' p g' L' b z g0 v0 vd Ld X := by
  obtain ⟨r0, r1, h2⟩ := h.c2
  have n8 : ¬ (8 : Nat) = i := fun e => hi.1 e.symm
  exact ⟨h1, h.d.sn s (fun e => hi.2 e.symm), h.c0.sn s n8, h.c1.sn s n8, ⟨r0, r1, h2.sn s n8⟩, fun e he => ⟨(h.x e he).1.sn s n8, (h.x e he).2⟩, h.n.trans s, h.b⟩
/-- a box more -/
theorem Sh.box (h : Sh own i w own' W p g L b z g0 v0 vd Ld X) (t : TypeId) (cs : List Value) : Sh own i w (give own' W.heap.size 8) (W.alloc (.cells cs.toArray t)) p g L b z g0 v0 vd Ld ((W.heap.size, t, cs) :: X) := by
  have k := h.step ((Keeps.refl _ _).alloc (.cells cs.toArray t)) 8
  obtain ⟨r0, r1, h2⟩ := h.c2
  refine { k with x := fun e he => ?_ }
  rcases List.mem_cons.1 he with rfl | he
  · refine ⟨⟨Cells.new W t cs, give_new (Nat.le_refl _)⟩, ?_⟩
    have := h2.1.lt
    simp only
    omega
  · exact k.x e he
/-- the document's next rows -/
theorem Sh.rows (h : Sh own i w own' W p g L b z g0 v0 vd Ld X) {v2 : Value} {L2 : Hl} (hd : RdH own' W v2 L2) : Sh own i w own' W p g L b z g0 v0 v2 L2 X := { h with d := hd }

/-- what a step leaves -/
def Ends22 (own : Nat → Nat) (i : Nat) (w : World) (p g : Nat) (e : Ending) (w' : World) : Prop :=
  ∃ g' v' L' own', e = .returned (.tuple #[.agg #[.int .i64 (g' : Nat), v'], .bool true]) ∧ Aside (Hp own' i w' p g' L' v' ∧ g' ≤ g + 1 ∧ Sn (fun k => k = i) own w own' w')
/-- the result is written -/
theorem Sh.end (h : Sh own i w own' W p g L b z g0 v0 vd L X) (hi : i ≠ 8 ∧ i ≠ 9) (G : Nat) (hG : g ≤ G + 1) :
    Ends22 own i w p G (.returned (.tuple #[.agg #[.int .i64 g, vd], .bool true])) ((W.setCell ⟨b + 1 + 1, 0, none⟩ (.int .i64 g)).setCell ⟨b + 1 + 1, 1, none⟩ vd) := by
  obtain ⟨r0, r1, h2⟩ := h.c2
  have s8 : Sn (fun k => k = 8) own' W own' ((W.setCell ⟨b + 1 + 1, 0, none⟩ (.int .i64 g)).setCell ⟨b + 1 + 1, 1, none⟩ vd) := ⟨fun _ _ => rfl, ((Keeps.refl _ _).setCell _ _ (fun _ => h2.2)).setCell _ _ (fun _ => h2.2)⟩
  refine ⟨g, vd, L, own', rfl, ⟨⟨h.h.sn s8 hi.1, h.d.sn s8 (by decide)⟩, hG, ⟨h.n.agree, ?_⟩⟩⟩
  exact h.n.keeps.next (S' := fun k => k = b + 1 + 1) (((Keeps.refl (fun k => k = b + 1 + 1) W).setCell ⟨b + 1 + 1, 0, none⟩ _ (fun _ => rfl)).setCell ⟨b + 1 + 1, 1, none⟩ _ (fun _ => rfl)) (fun k e hlt => by have := h.b; omega)
theorem Sh.fin (h : Aside (Sh own i w own' W p g L b z g0 v0 vd L X)) (hi : i ≠ 8 ∧ i ≠ 9) (G : Nat) (hG : g ≤ G + 1) : ((W.setCell ⟨b + 1 + 1, 0, none⟩ (.int .i64 g)).setCell ⟨b + 1 + 1, 1, none⟩ vd).cell? ⟨b + 1 + 1, 0, none⟩ = some (.int .i64 g) ∧ ((W.setCell ⟨b + 1 + 1, 0, none⟩ (.int .i64 g)).setCell ⟨b + 1 + 1, 1, none⟩ vd).cell? ⟨b + 1 + 1, 1, none⟩ = some vd ∧ Aside (Ends22 own i w p G (.returned (.tuple #[.agg #[.int .i64 g, vd], .bool true])) ((W.setCell ⟨b + 1 + 1, 0, none⟩ (.int .i64 g)).setCell ⟨b + 1 + 1, 1, none⟩ vd)) := by
  obtain ⟨r0, r1, h2⟩ := h.it.c2
  have e2 := (h2.1.setCell 0 (.int .i64 g)).setCell 1 vd
  exact ⟨by rw [e2.cell]; rfl, by rw [e2.cell]; rfl, ⟨h.it.end hi G hG⟩⟩
theorem Sh.res (h : Aside (Sh own i w own' W p g L b z g0 v0 vd Ld X)) : ∃ r0 r1, W.cell? ⟨b + 1 + 1, 0, none⟩ = some r0 ∧ W.cell? ⟨b + 1 + 1, 1, none⟩ = some r1 ∧ W.frozen? ⟨b + 1 + 1, 0, none⟩ = false ∧ W.frozen? ⟨b + 1 + 1, 1, none⟩ = false := by
  obtain ⟨r0, r1, h2⟩ := h.it.c2
  exact ⟨r0, r1, by rw [h2.1.cell]; rfl, by rw [h2.1.cell]; rfl, h2.1.frozen 0, h2.1.frozen 1⟩
/-- what a step reads of its arguments -/
def RdA (W : World) (b : Nat) (z : OpV22) (g0 : Nat) (v0 : Value) : Prop := W.cell? ⟨b, 0, none⟩ = some (.int .i64 g0) ∧ W.cell? ⟨b, 1, none⟩ = some v0 ∧ W.cell? ⟨b + 1, 0, none⟩ = some (.int .i64 z.kind) ∧ W.cell? ⟨b + 1, 1, none⟩ = some (.int .i64 z.p.c) ∧ W.cell? ⟨b + 1, 1 + 1, none⟩ = some (.int .i64 z.p.l) ∧ W.cell? ⟨b + 1, 1 + 2, none⟩ = some (.int .u32 (z.p.d : Nat)) ∧ W.cell? ⟨b + 1, 4, none⟩ = some (.int .i64 z.h)
theorem rdA_of {c0 : Cells W b 28 [.int .i64 g0, v0]} {c1 : Cells W (b + 1) 35 z.cells} : RdA W b z g0 v0 :=
  ⟨by rw [c0.cell]; rfl, by rw [c0.cell]; rfl, by rw [c1.cell]; rfl, by rw [c1.cell]; rfl, by rw [c1.cell]; rfl, by rw [c1.cell]; rfl, by rw [c1.cell]; rfl⟩
theorem Sh.args (h : Sh own i w own' W p g L b z g0 v0 vd Ld X) : RdA W b z g0 v0 := rdA_of (c0 := h.c0.1) (c1 := h.c1.1)
theorem Sh.argsS (h : Sh own i w own' W p g L b z g0 v0 vd Ld X) (x y : Value) : RdA ((W.setCell ⟨b + 1 + 1, 0, none⟩ x).setCell ⟨b + 1 + 1, 1, none⟩ y) b z g0 v0 :=
  rdA_of (c0 := (h.c0.1.setOther ⟨b + 1 + 1, 0, none⟩ x (by simp; omega)).setOther ⟨b + 1 + 1, 1, none⟩ y (by simp; omega)) (c1 := (h.c1.1.setOther ⟨b + 1 + 1, 0, none⟩ x (by simp)).setOther ⟨b + 1 + 1, 1, none⟩ y (by simp))
theorem Sh.start (h : Hp own i w p g L v) (z : OpV22) : Sh own i w (give own w.heap.size 8) (((w.alloc (.cells #[.int .i64 g, v] 28)).alloc (.cells #[.int .i64 z.kind, .int .i64 z.p.c, .int .i64 z.p.l, .int .u32 (z.p.d : Nat), .int .i64 z.h] 35)).alloc (.cells #[.int .i64 0, .slice none 0 0] 28)) p g L w.heap.size z g v v L [] := by
  have K : Keeps Nowhere w (((w.alloc (.cells #[.int .i64 g, v] 28)).alloc (.cells #[.int .i64 z.kind, .int .i64 z.p.c, .int .i64 z.p.l, .int .u32 (z.p.d : Nat), .int .i64 z.h] 35)).alloc (.cells #[.int .i64 0, .slice none 0 0] 28)) := (((Keeps.refl _ _).alloc _).alloc _).alloc _
  have s : Sn (fun _ => False) own w (give own w.heap.size 8) _ := Sn.quiet K 8
  refine ⟨h.t.sn s (fun x => x), h.d.sn s (fun x => x), ⟨?_, give_new (by omega)⟩, ⟨?_, give_new (by omega)⟩, ⟨.int .i64 0, .slice none 0 0, ⟨?_, give_new (by omega)⟩⟩, fun e he => (by cases he), Sn.quiet K 8, Nat.le_refl _⟩
  · exact (Cells.new w _ [.int .i64 g, v]).later (S := Nowhere) (((Keeps.refl _ _).alloc _).alloc _) (fun x => x)
  · have h := Cells.new (w.alloc (.cells #[.int .i64 g, v] 28)) 35 z.cells
    rw [World.size_alloc] at h
    exact h.later (S := Nowhere) ((Keeps.refl _ _).alloc _) (fun x => x)
  · have h := Cells.new ((w.alloc (.cells #[.int .i64 g, v] 28)).alloc (.cells #[.int .i64 z.kind, .int .i64 z.p.c, .int .i64 z.p.l, .int .u32 (z.p.d : Nat), .int .i64 z.h] 35)) 28 [.int .i64 0, .slice none 0 0]
    rw [World.size_alloc, World.size_alloc] at h
    exact h
end Go.Proofs.YtjloedcikcamkaaDoor
