/-
  layer 19's laws: a pipe, the document's and its box; the ops of a script
-/
import Derived.Test.YtpmmjekaefemeaaDoorPqH
import Derived.Test.YtpmmjekaefemeaaDoorOpenPp
namespace Go.Proofs.YtpmmjekaefemeaaDoor
open Go.RowKit

section
variable {A : Nat → Addr} {own own' own2 : Nat → Nat} {w w' w0 W : World} {ALL ns : List Int} {v sl vb : Value} {i p G Gb wb nb b o : Nat} {cut cb : Bool} {I : Nat → Prop} {kd n : Int} {X : List (Nat × List Value)}

theorem op_cells {zs : List OpV19} {a : Option Addr} {c i bulk : Nat} {z : OpV19} (h : ListAt (Op19Ok w bulk) 3 w (.slice a zs.length c) zs) (hi : zs[i]? = some z) :
    ∃ b o, a = some ⟨b, o, none⟩ ∧ Aside (w.cell? ⟨b, o + i * 3, none⟩ = some (.int .i64 z.kind) ∧ w.cell? ⟨b, o + i * 3 + 1, none⟩ = some z.sl ∧ w.cell? ⟨b, o + i * 3 + 2, none⟩ = some (.int .i64 z.n)) ∧ Rd w z.sl z.ns ∧ z.ns.length ≤ bulk := by
  obtain ⟨a', c', e, _, _, h⟩ := h
  injection e with e1 _ e2
  subst e1
  obtain ⟨b, o, cs, rfl, ⟨rfl, h1, h2, h3, h4⟩, _, hc⟩ := h i z hi
  exact ⟨b, o, rfl, ⟨hc 0 (by decide), hc 1 (by decide), hc 2 (by decide)⟩, h1, h4⟩
/-- the boxes X are owner 8's -/
structure Pz (A : Nat → Addr) (w0 : World) (own : Nat → Nat) (W : World) (i p : Nat) (v : Value) (ALL : List Int) (G : Nat) (cut : Bool) (wb : Nat) (vb : Value) (Gb : Nat) (cb : Bool) (X : List (Nat × List Value)) : Prop where
  g : OnG A w0 own W
  t : Tp own i W p v ALL G cut
  c : CellsO own 8 W wb 28 [vb, .int .i64 Gb, .bool cb]
  x : ∀ y ∈ X, CellsO own 8 W y.1 28 y.2
theorem Pz.sn (h : Pz A w0 own W i p v ALL G cut wb vb Gb cb X) (s : Sn I own W own' w') (h0 : ¬ I 0) (h8 : ¬ I 8) (hI : ∀ k, I k → k < i ∨ i + 4 < k) : Pz A w0 own' w' i p v ALL G cut wb vb Gb cb X := ⟨h.g.sn s h0, h.t.sn s hI, h.c.sn s h8, fun y hy => (h.x y hy).sn s h8⟩
theorem Pz.quiet (h : Pz A w0 own W i p v ALL G cut wb vb Gb cb X) (hk : Keeps Nowhere W w') : Pz A w0 own w' i p v ALL G cut wb vb Gb cb X := h.sn (I := fun _ => False) (Sn.same hk) (fun x => x) (fun x => x) (fun _ x => x.elim)
theorem Pz.step (h : Pz A w0 own W i p v ALL G cut wb vb Gb cb X) (hk : Keeps Nowhere W w') (r : Nat) : Pz A w0 (give own W.heap.size r) w' i p v ALL G cut wb vb Gb cb X := h.sn (I := fun _ => False) (Sn.quiet hk r) (fun x => x) (fun x => x) (fun _ x => x.elim)
/-- a box more -/
theorem Pz.box (h : Pz A w0 own W i p v ALL G cut wb vb Gb cb X) (c0 c1 c2 : Value) : Pz A w0 (give own W.heap.size 8) (W.alloc (.cells #[c0, c1, c2] 28)) i p v ALL G cut wb vb Gb cb ((W.heap.size, [c0, c1, c2]) :: X) := by
  have h' := h.step ((Keeps.refl _ _).alloc (.cells #[c0, c1, c2] 28)) 8
  refine ⟨h'.g, h'.t, h'.c, fun y hy => ?_⟩
  rcases List.mem_cons.1 hy with rfl | hy
  · exact ⟨Cells.new W _ _, give_new (Nat.le_refl _)⟩
  · exact h'.x y hy
theorem pz_step (hi : 10 ≤ i) (h : Aside (Pz A w0 own W i p v ALL G cut wb vb Gb cb X)) (hr : Rd w0 sl ns) (hm : ALL.length + ns.length ≤ 2199023255551) : Calls Tryd.prog 10 #[ptr p, dz v G cut, .agg #[.int .i64 kd, sl, .int .i64 n]] W fun e w' => ∃ qa ql qc G2 cut2 own6, e = .returned (.tuple #[dz (.slice qa ql qc) ((G2 : Nat) : Int) cut2, .bool true]) ∧ Aside (∃ ALL2 : List Int, ALL2.length ≤ ALL.length + ns.length ∧ Pz A w0 own6 w' i p (.slice qa ql qc) ALL2 G2 cut2 wb vb Gb cb X) := by
  refine (step19 own W h.it.g h.it.t (RdQ.ground h.it.g hr) hi hm n kd).mono ?_
  rintro e w' ⟨qa, ql, qc, G2, cut2, own6, rfl, X6⟩
  obtain ⟨ALL2, h1, h2, h3⟩ := X6.it
  have e8 : ¬ I19 i 8 := by show ¬ (_ ∨ _ ∨ _); omega
  have e0 : ¬ I19 i 0 := by show ¬ (_ ∨ _ ∨ _); omega
  exact ⟨qa, ql, qc, G2, cut2, own6, rfl, ⟨ALL2, h1, h.it.g.sn h3 e0, h2, h.it.c.sn h3 e8, fun y hy => (h.it.x y hy).sn h3 e8⟩⟩
/-- Len, Passed, Broken: the document's pipe stays -/
theorem pz_len (hi : 10 ≤ i) (h : Aside (Pz A w0 own W i p v ALL G cut wb vb Gb cb X)) (hm : ALL.length ≤ 2199023255551) : Calls Tryd.prog 10 #[ptr p, dz v G cut, .agg #[.int .i64 3, .slice none 0 0, .int .i64 0]] W fun e w' => ∃ own6, e = .returned (.tuple #[dz v ((G : Nat) : Int) cut, .bool true]) ∧ Aside (Pz A w0 own6 w' i p v ALL G cut wb vb Gb cb X) := by
  refine (step19_3 own W h.it.g h.it.t (RdQ.ground h.it.g (RowB.nil own 0 _).rd) hi (by simpa using hm) 0).mono ?_
  rintro e w' ⟨own6, rfl, X6⟩
  have e8 : ¬ I19 i 8 := by show ¬ (_ ∨ _ ∨ _); omega
  have e0 : ¬ I19 i 0 := by show ¬ (_ ∨ _ ∨ _); omega
  exact ⟨own6, rfl, ⟨h.it.g.sn X6.it.2 e0, X6.it.1, h.it.c.sn X6.it.2 e8, fun y hy => (h.it.x y hy).sn X6.it.2 e8⟩⟩
/-- the box wb takes the document's next -/
theorem Pz.write (hi : 10 ≤ i) (h : Pz A w0 own W i p v ALL G cut wb vb Gb cb X) : Pz A w0 own (((W.setCell ⟨wb, 0, none⟩ v).setCell ⟨wb, 1, none⟩ (.int .i64 G)).setCell ⟨wb, 2, none⟩ (.bool cut)) i p v ALL G cut wb v G cut [] := by
  have s8 : Sn (fun k => k = 8) own W own (((W.setCell ⟨wb, 0, none⟩ v).setCell ⟨wb, 1, none⟩ (.int .i64 G)).setCell ⟨wb, 2, none⟩ (.bool cut)) := ⟨fun _ _ => rfl, (((Keeps.refl _ _).setCell _ _ (fun _ => h.c.2)).setCell _ _ (fun _ => h.c.2)).setCell _ _ (fun _ => h.c.2)⟩
  exact ⟨h.g.sn s8 (by omega), h.t.sn s8 (fun k e => by omega), ⟨((h.c.1.setCell 0 v).setCell 1 (.int .i64 G)).setCell 2 (.bool cut), h.c.2⟩, fun y hy => by cases hy⟩
theorem Pz.cells (h : Pz A w0 own W i p v ALL G cut wb vb Gb cb X) : W.cell? ⟨wb, 0, none⟩ = some vb ∧ W.cell? ⟨wb, 1, none⟩ = some (.int .i64 Gb) ∧ W.cell? ⟨wb, 2, none⟩ = some (.bool cb) ∧ W.frozen? ⟨wb, 0, none⟩ = false ∧ W.frozen? ⟨wb, 1, none⟩ = false ∧ W.frozen? ⟨wb, 2, none⟩ = false := ⟨by rw [h.c.1.cell]; rfl, by rw [h.c.1.cell]; rfl, by rw [h.c.1.cell]; rfl, h.c.1.frozen 0, h.c.1.frozen 1, h.c.1.frozen 2⟩
/-- a place of the script, in whatever world above the ground -/
theorem OnG.cell {a : Addr} {x : Value} (hg : OnG A w0 own W) (h : w0.cell? a = some x) : W.cell? a = some x := by
  rw [hg.g.bel.cell (World.block_lt_of_cell? w0 _ h)]; exact h
/-- what a round reads -/
theorem Pz.h6 (ho : Aside (w0.cell? ⟨b, o, none⟩ = some (.int .i64 kd) ∧ w0.cell? ⟨b, o + 1, none⟩ = some sl ∧ w0.cell? ⟨b, o + 2, none⟩ = some (.int .i64 n))) (h : Aside (Pz A w0 own W i p v ALL G cut wb vb Gb cb X)) :
    W.cell? ⟨wb, 0, none⟩ = some vb ∧ W.cell? ⟨wb, 1, none⟩ = some (.int .i64 Gb) ∧ W.cell? ⟨wb, 2, none⟩ = some (.bool cb) ∧ W.cell? ⟨b, o, none⟩ = some (.int .i64 kd) ∧ W.cell? ⟨b, o + 1, none⟩ = some sl ∧ W.cell? ⟨b, o + 2, none⟩ = some (.int .i64 n) :=
  ⟨h.it.cells.1, h.it.cells.2.1, h.it.cells.2.2.1, h.it.g.cell ho.it.1, h.it.g.cell ho.it.2.1, h.it.g.cell ho.it.2.2⟩
theorem Pz.h6A (ho : Aside (w0.cell? ⟨b, o, none⟩ = some (.int .i64 kd) ∧ w0.cell? ⟨b, o + 1, none⟩ = some sl ∧ w0.cell? ⟨b, o + 2, none⟩ = some (.int .i64 n))) (h : Aside (Pz A w0 own W i p v ALL G cut wb vb Gb cb X)) {ob : Obj} :
    (W.alloc ob).cell? ⟨wb, 0, none⟩ = some vb ∧ (W.alloc ob).cell? ⟨wb, 1, none⟩ = some (.int .i64 Gb) ∧ (W.alloc ob).cell? ⟨wb, 2, none⟩ = some (.bool cb) ∧ (W.alloc ob).cell? ⟨b, o, none⟩ = some (.int .i64 kd) ∧ (W.alloc ob).cell? ⟨b, o + 1, none⟩ = some sl ∧ (W.alloc ob).cell? ⟨b, o + 2, none⟩ = some (.int .i64 n) :=
  Pz.h6 ho ⟨h.it.quiet ((Keeps.refl _ _).alloc ob)⟩
/-- the box that was laid ahead of the call is written -/
theorem Pz.put (hi : 10 ≤ i) {y0 y1 y2 x0 x1 x2 : Value} (hn : nb ≠ wb) (h : Pz A w0 own W i p v ALL G cut wb vb Gb cb [(nb, [y0, y1, y2])]) : Pz A w0 own (((W.setCell ⟨nb, 0, none⟩ x0).setCell ⟨nb, 1, none⟩ x1).setCell ⟨nb, 2, none⟩ x2) i p v ALL G cut wb vb Gb cb [(nb, [x0, x1, x2])] := by
  have hb := h.x _ List.mem_cons_self
  have s8 : Sn (fun k => k = 8) own W own (((W.setCell ⟨nb, 0, none⟩ x0).setCell ⟨nb, 1, none⟩ x1).setCell ⟨nb, 2, none⟩ x2) := ⟨fun _ _ => rfl, (((Keeps.refl _ _).setCell _ _ (fun _ => hb.2)).setCell _ _ (fun _ => hb.2)).setCell _ _ (fun _ => hb.2)⟩
  refine ⟨h.g.sn s8 (by omega), h.t.sn s8 (fun k e => by omega), ⟨((h.c.1.setOther ⟨nb, 0, none⟩ x0 (fun e => hn e.symm)).setOther ⟨nb, 1, none⟩ x1 (fun e => hn e.symm)).setOther ⟨nb, 2, none⟩ x2 (fun e => hn e.symm), h.c.2⟩, fun y hy => ?_⟩
  rw [List.mem_singleton] at hy
  subst hy
  exact ⟨((hb.1.setCell 0 x0).setCell 1 x1).setCell 2 x2, hb.2⟩
theorem Pz.h6S (hi : 10 ≤ i) (hn : nb ≠ wb) (ho : Aside (w0.cell? ⟨b, o, none⟩ = some (.int .i64 kd) ∧ w0.cell? ⟨b, o + 1, none⟩ = some sl ∧ w0.cell? ⟨b, o + 2, none⟩ = some (.int .i64 n))) {y0 y1 y2 x0 x1 x2 : Value} (h : Aside (Pz A w0 own W i p v ALL G cut wb vb Gb cb [(nb, [y0, y1, y2])])) :
    (((W.setCell ⟨nb, 0, none⟩ x0).setCell ⟨nb, 1, none⟩ x1).setCell ⟨nb, 2, none⟩ x2).cell? ⟨wb, 0, none⟩ = some vb ∧ (((W.setCell ⟨nb, 0, none⟩ x0).setCell ⟨nb, 1, none⟩ x1).setCell ⟨nb, 2, none⟩ x2).cell? ⟨wb, 1, none⟩ = some (.int .i64 Gb) ∧ (((W.setCell ⟨nb, 0, none⟩ x0).setCell ⟨nb, 1, none⟩ x1).setCell ⟨nb, 2, none⟩ x2).cell? ⟨wb, 2, none⟩ = some (.bool cb) ∧ (((W.setCell ⟨nb, 0, none⟩ x0).setCell ⟨nb, 1, none⟩ x1).setCell ⟨nb, 2, none⟩ x2).cell? ⟨b, o, none⟩ = some (.int .i64 kd) ∧ (((W.setCell ⟨nb, 0, none⟩ x0).setCell ⟨nb, 1, none⟩ x1).setCell ⟨nb, 2, none⟩ x2).cell? ⟨b, o + 1, none⟩ = some sl ∧ (((W.setCell ⟨nb, 0, none⟩ x0).setCell ⟨nb, 1, none⟩ x1).setCell ⟨nb, 2, none⟩ x2).cell? ⟨b, o + 2, none⟩ = some (.int .i64 n) :=
  Pz.h6 ho ⟨h.it.put hi hn⟩
theorem Pz.res {y0 y1 y2 : Value} (h : Aside (Pz A w0 own W i p v ALL G cut wb vb Gb cb [(nb, [y0, y1, y2])])) : W.cell? ⟨nb, 0, none⟩ = some y0 ∧ W.cell? ⟨nb, 1, none⟩ = some y1 ∧ W.cell? ⟨nb, 2, none⟩ = some y2 ∧ W.frozen? ⟨nb, 0, none⟩ = false ∧ W.frozen? ⟨nb, 1, none⟩ = false ∧ W.frozen? ⟨nb, 2, none⟩ = false := by
  have h2 := h.it.x _ List.mem_cons_self
  exact ⟨by rw [h2.1.cell]; rfl, by rw [h2.1.cell]; rfl, by rw [h2.1.cell]; rfl, h2.1.frozen 0, h2.1.frozen 1, h2.1.frozen 2⟩
end
end Go.Proofs.YtpmmjekaefemeaaDoor
