/-
  culvertlaw19.PipeOwn's world
-/
import Derived.Test.YtpmmjekaefemeaaDoorPqI
import Derived.Test.YtpmmjekaefemeaaDoorApW
namespace Go.Proofs.YtpmmjekaefemeaaDoor
open Go.RowKit

/-- the document's pipe -/
structure Dp where
  v : Value
  ALL : List Int
  G : Nat
  cut : Bool
abbrev Dp.cells (d : Dp) : List Value := [d.v, .int .i64 d.G, .bool d.cut]
abbrev Dp.t (d : Dp) (own : Nat → Nat) (i : Nat) (W : World) (p : Nat) : Prop := Tp own i W p d.v d.ALL d.G d.cut
section
variable {A : Nat → Addr} {own own' own2 : Nat → Nat} {w w' w0 W : World} {ns : List Int} {sl lv mv : Value} {vs us : List Value} {Lv Lu : List (List Int)} {L : List Int} {ps : Nat} {cp : Bool} {p q wb xb nb b o ob : Nat} {I : Nat → Prop} {kd n : Int} {X : List (Nat × List Value)} {d d' y y' z : Dp}

/-- two pipes (10 to 14, 20 to 24), their documents' boxes and others (8), the lists -/
structure Pj (A : Nat → Addr) (w0 : World) (own : Nat → Nat) (W : World) (p : Nat) (L : List Int) (ps : Nat) (cp : Bool) (d d' : Dp) (wb q : Nat) (y y' : Dp) (xb : Nat) (lv : Value) (vs : List Value) (mv : Value) (us : List Value) (Lv Lu : List (List Int)) (X : List (Nat × List Value)) : Prop where
  g : OnG A w0 own W
  tp : PpO own 10 W p L ps cp
  dr : RdO own 14 W d.v d.ALL
  dr' : RdO own 14 W d'.v d'.ALL
  tq : y.t own 20 W q
  cw : CellsO own 8 W wb 28 d'.cells
  cx : CellsO own 8 W xb 28 y'.cells
  l : Ls5 own W lv vs mv us Lv Lu
  x : ∀ z ∈ X, CellsO own 8 W z.1 28 z.2
  ne : wb ≠ xb
theorem Pj.sn (h : Pj A w0 own W p L ps cp d d' wb q y y' xb lv vs mv us Lv Lu X) (s : Sn I own W own' w') (h0 : ¬ I 0) (h8 : ¬ I 8) (h10 : ∀ k, I k → k < 10 ∨ 14 < k) (h20 : ∀ k, I k → k < 20 ∨ 24 < k) (h5 : ¬ I 5) (h6 : ¬ I 6) (h7 : ¬ I 7) (hh : ∀ q, q < Lv.length → ¬ I (100 + 2 * q)) : Pj A w0 own' w' p L ps cp d d' wb q y y' xb lv vs mv us Lv Lu X :=
  ⟨h.g.sn s h0, h.tp.sn s (fun e => by have := h10 _ e; omega) (fun e => by have := h10 _ e; omega) (fun e => by have := h10 _ e; omega), h.dr.sn s (fun e => by have := h10 _ e; omega), h.dr'.sn s (fun e => by have := h10 _ e; omega), h.tq.sn s h20, h.cw.sn s h8, h.cx.sn s h8, h.l.sn s h5 h6 h7 hh, fun z hz => (h.x z hz).sn s h8, h.ne⟩
theorem Pj.quiet (h : Pj A w0 own W p L ps cp d d' wb q y y' xb lv vs mv us Lv Lu X) (hk : Keeps Nowhere W w') : Pj A w0 own w' p L ps cp d d' wb q y y' xb lv vs mv us Lv Lu X :=
  h.sn (I := fun _ => False) (Sn.same hk) (fun x => x) (fun x => x) (fun _ x => x.elim) (fun _ x => x.elim) (fun x => x) (fun x => x) (fun x => x) (fun _ _ x => x)
theorem Pj.step (h : Pj A w0 own W p L ps cp d d' wb q y y' xb lv vs mv us Lv Lu X) (hk : Keeps Nowhere W w') (r : Nat) : Pj A w0 (give own W.heap.size r) w' p L ps cp d d' wb q y y' xb lv vs mv us Lv Lu X :=
  h.sn (I := fun _ => False) (Sn.quiet hk r) (fun x => x) (fun x => x) (fun _ x => x.elim) (fun _ x => x.elim) (fun x => x) (fun x => x) (fun x => x) (fun _ _ x => x)
theorem Pj.box (h : Pj A w0 own W p L ps cp d d' wb q y y' xb lv vs mv us Lv Lu X) (c0 c1 c2 : Value) : Pj A w0 (give own W.heap.size 8) (W.alloc (.cells #[c0, c1, c2] 28)) p L ps cp d d' wb q y y' xb lv vs mv us Lv Lu ((W.heap.size, [c0, c1, c2]) :: X) := by
  have h' := h.step ((Keeps.refl _ _).alloc (.cells #[c0, c1, c2] 28)) 8
  refine ⟨h'.g, h'.tp, h'.dr, h'.dr', h'.tq, h'.cw, h'.cx, h'.l, fun z hz => ?_, h'.ne⟩
  rcases List.mem_cons.1 hz with rfl | hz
  · exact ⟨Cells.new W _ _, give_new (Nat.le_refl _)⟩
  · exact h'.x z hz
theorem Pj.drop (h : Pj A w0 own W p L ps cp d d' wb q y y' xb lv vs mv us Lv Lu X) : Pj A w0 own W p L ps cp d d' wb q y y' xb lv vs mv us Lv Lu [] := ⟨h.g, h.tp, h.dr, h.dr', h.tq, h.cw, h.cx, h.l, fun z hz => (by cases hz), h.ne⟩
/-- q has taken its step -/
theorem pj_stepq (h : Aside (Pj A w0 own W p L ps cp d d' wb q y y xb lv vs mv us Lv Lu X)) (hr : Rd w0 sl ns) (hm : y.ALL.length + ns.length ≤ 2199023255551) : Calls Tryd.prog 10 #[ptr q, dz y.v y.G y.cut, .agg #[.int .i64 kd, sl, .int .i64 n]] W fun e w' => ∃ qa ql qc G2 cut2 own6, e = .returned (.tuple #[dz (.slice qa ql qc) ((G2 : Nat) : Int) cut2, .bool true]) ∧ Aside (∃ ALL2 : List Int, ALL2.length ≤ y.ALL.length + ns.length ∧ Pj A w0 own6 w' p L ps cp d d' wb q ⟨.slice qa ql qc, ALL2, G2, cut2⟩ y xb lv vs mv us Lv Lu X) := by
  refine (step19 own W h.it.g h.it.tq (RdQ.ground h.it.g hr) (by decide) hm n kd).mono ?_
  rintro e w' ⟨qa, ql, qc, G2, cut2, own6, rfl, X6⟩
  obtain ⟨ALL2, h1, h2, h3⟩ := X6.it
  have e8 : ¬ I19 20 8 := by show ¬ (_ ∨ _ ∨ _); omega
  have e0 : ¬ I19 20 0 := by show ¬ (_ ∨ _ ∨ _); omega
  have eq : ∀ r, I19 20 r → r < 10 ∨ 14 < r := fun r e => by have : r = 20 ∨ r = 20 + 1 ∨ r = 20 + 3 := e; omega
  exact ⟨qa, ql, qc, G2, cut2, own6, rfl, ⟨ALL2, h1, h.it.g.sn h3 e0, h.it.tp.sn h3 (fun e => by have := eq _ e; omega) (fun e => by have := eq _ e; omega) (fun e => by have := eq _ e; omega), h.it.dr.sn h3 (fun e => by have := eq _ e; omega), h.it.dr'.sn h3 (fun e => by have := eq _ e; omega), h2, h.it.cw.sn h3 e8, h.it.cx.sn h3 e8, h.it.l.sn h3 (by show ¬ (_ ∨ _ ∨ _); omega) (by show ¬ (_ ∨ _ ∨ _); omega) (by show ¬ (_ ∨ _ ∨ _); omega) (fun r _ => by show ¬ (_ ∨ _ ∨ _); omega), fun z hz => (h.it.x z hz).sn h3 e8, h.it.ne⟩⟩
/-- p's own call has changed its pipe -/
theorem Pj.prog (h : Pj A w0 own W p L ps cp d d' wb q y y' xb lv vs mv us Lv Lu X) {L2 : List Int} {ps2 : Nat} {cp2 : Bool} (ht : PpO own2 10 w' p L2 ps2 cp2) (s : Sn (I19 10) own W own2 w') : Pj A w0 own2 w' p L2 ps2 cp2 d d' wb q y y' xb lv vs mv us Lv Lu X := by
  have e8 : ¬ I19 10 8 := by show ¬ (_ ∨ _ ∨ _); omega
  have e0 : ¬ I19 10 0 := by show ¬ (_ ∨ _ ∨ _); omega
  have e4 : ¬ I19 10 14 := by show ¬ (_ ∨ _ ∨ _); omega
  have eq : ∀ r, I19 10 r → r < 20 ∨ 24 < r := fun r e => by have : r = 10 ∨ r = 10 + 1 ∨ r = 10 + 3 := e; omega
  exact ⟨h.g.sn s e0, ht, h.dr.sn s e4, h.dr'.sn s e4, h.tq.sn s eq, h.cw.sn s e8, h.cx.sn s e8, h.l.sn s (by show ¬ (_ ∨ _ ∨ _); omega) (by show ¬ (_ ∨ _ ∨ _); omega) (by show ¬ (_ ∨ _ ∨ _); omega) (fun r _ => by show ¬ (_ ∨ _ ∨ _); omega), fun z hz => (h.x z hz).sn s e8, h.ne⟩
/-- the document's next is known -/
theorem Pj.pend (h : Pj A w0 own W p L ps cp d d' wb q y y' xb lv vs mv us Lv Lu X) {e : Dp} (he : RdO own 14 W e.v e.ALL) : Pj A w0 own W p L ps cp e d' wb q y y' xb lv vs mv us Lv Lu X := ⟨h.g, h.tp, he, h.dr', h.tq, h.cw, h.cx, h.l, h.x, h.ne⟩
theorem Pj.pushL {v : Value} {l : List Int} (h : Pj A w0 own W p L ps cp d d' wb q y y' xb lv vs mv us Lv Lu X) (hX : XB own W Lv.length v l) (hb : Lv.length ≤ 1048576) : ∃ (a : Option Addr) (c : Nat) (w' : World) (own' : Nat → Nat), (∀ ty, (Builtin.append_ #[48, 48] ty #[lv, .slice (some ⟨W.heap.size, 0, none⟩) 1 1]).run Tryd.prog (W.alloc (.cells #[v] 26)) = .ok (.slice a (Lv.length + 1) c) w') ∧ Aside (Pj A w0 own' w' p L ps cp d d' wb q y y' xb (.slice a (Lv.length + 1) c) (vs ++ [v]) mv us (Lv ++ [l]) Lu X ∧ XB own' w' Lv.length v l) := by
  obtain ⟨a, c, w', own', run, X'⟩ := h.l.pushL hX hb
  have s := X'.it.2
  exact ⟨a, c, w', own', run, ⟨h.g.sn s (by decide), h.tp.sn s (by decide) (by decide) (by decide), h.dr.sn s (by decide), h.dr'.sn s (by decide), h.tq.sn s (fun k e => by omega), h.cw.sn s (by decide), h.cx.sn s (by decide), X'.it.1, fun z hz => (h.x z hz).sn s (by decide), h.ne⟩, hX.sn s (by omega)⟩
theorem Pj.pushM {v : Value} {l : List Int} (h : Pj A w0 own W p L ps cp d d' wb q y y' xb lv vs mv us Lv Lu X) (hv : RdO own 7 W v l) (hb : Lu.length ≤ 1048576) : ∃ (a : Option Addr) (c : Nat) (w' : World) (own' : Nat → Nat), (∀ ty, (Builtin.append_ #[48, 48] ty #[mv, .slice (some ⟨W.heap.size, 0, none⟩) 1 1]).run Tryd.prog (W.alloc (.cells #[v] 26)) = .ok (.slice a (Lu.length + 1) c) w') ∧ Aside (Pj A w0 own' w' p L ps cp d d' wb q y y' xb lv vs (.slice a (Lu.length + 1) c) (us ++ [v]) Lv (Lu ++ [l]) X) := by
  obtain ⟨a, c, w', own', run, X'⟩ := h.l.pushM hv hb
  have s := X'.it.2
  exact ⟨a, c, w', own', run, ⟨h.g.sn s (by decide), h.tp.sn s (by decide) (by decide) (by decide), h.dr.sn s (by decide), h.dr'.sn s (by decide), h.tq.sn s (fun k e => by omega), h.cw.sn s (by decide), h.cx.sn s (by decide), X'.it.1, fun z hz => (h.x z hz).sn s (by decide), h.ne⟩⟩
theorem Pj.cellsX (h : Pj A w0 own W p L ps cp d d' wb q y y' xb lv vs mv us Lv Lu X) : W.cell? ⟨xb, 0, none⟩ = some y'.v ∧ W.cell? ⟨xb, 1, none⟩ = some (.int .i64 y'.G) ∧ W.cell? ⟨xb, 2, none⟩ = some (.bool y'.cut) ∧ W.frozen? ⟨xb, 0, none⟩ = false ∧ W.frozen? ⟨xb, 1, none⟩ = false ∧ W.frozen? ⟨xb, 2, none⟩ = false := ⟨by rw [h.cx.1.cell]; rfl, by rw [h.cx.1.cell]; rfl, by rw [h.cx.1.cell]; rfl, h.cx.1.frozen 0, h.cx.1.frozen 1, h.cx.1.frozen 2⟩
theorem Pj.cellsW (h : Pj A w0 own W p L ps cp d d' wb q y y' xb lv vs mv us Lv Lu X) : W.cell? ⟨wb, 0, none⟩ = some d'.v ∧ W.cell? ⟨wb, 1, none⟩ = some (.int .i64 d'.G) ∧ W.cell? ⟨wb, 2, none⟩ = some (.bool d'.cut) ∧ W.frozen? ⟨wb, 0, none⟩ = false ∧ W.frozen? ⟨wb, 1, none⟩ = false ∧ W.frozen? ⟨wb, 2, none⟩ = false := ⟨by rw [h.cw.1.cell]; rfl, by rw [h.cw.1.cell]; rfl, by rw [h.cw.1.cell]; rfl, h.cw.1.frozen 0, h.cw.1.frozen 1, h.cw.1.frozen 2⟩
theorem box_sn {c0 c1 c2 : Value} {cs : List Value} (h : CellsO own 8 W nb 28 cs) : Sn (fun k => k = 8) own W own (((W.setCell ⟨nb, 0, none⟩ c0).setCell ⟨nb, 1, none⟩ c1).setCell ⟨nb, 2, none⟩ c2) := ⟨fun _ _ => rfl, (((Keeps.refl _ _).setCell _ _ (fun _ => h.2)).setCell _ _ (fun _ => h.2)).setCell _ _ (fun _ => h.2)⟩
theorem box_oth {c0 c1 c2 : Value} {cs : List Value} (h : CellsO own 8 W ob 28 cs) (hn : ob ≠ nb) : CellsO own 8 (((W.setCell ⟨nb, 0, none⟩ c0).setCell ⟨nb, 1, none⟩ c1).setCell ⟨nb, 2, none⟩ c2) ob 28 cs := ⟨((h.1.setOther ⟨nb, 0, none⟩ c0 hn).setOther ⟨nb, 1, none⟩ c1 hn).setOther ⟨nb, 2, none⟩ c2 hn, h.2⟩
theorem Pj.writeX (h : Pj A w0 own W p L ps cp d d' wb q y y' xb lv vs mv us Lv Lu X) : Pj A w0 own (((W.setCell ⟨xb, 0, none⟩ y.v).setCell ⟨xb, 1, none⟩ (.int .i64 y.G)).setCell ⟨xb, 2, none⟩ (.bool y.cut)) p L ps cp d d' wb q y y xb lv vs mv us Lv Lu [] := by
  have s8 := box_sn (c0 := y.v) (c1 := .int .i64 y.G) (c2 := .bool y.cut) h.cx
  exact ⟨h.g.sn s8 (by decide), h.tp.sn s8 (by decide) (by decide) (by decide), h.dr.sn s8 (by decide), h.dr'.sn s8 (by decide), h.tq.sn s8 (fun k e => by omega), box_oth h.cw h.ne, ⟨((h.cx.1.setCell 0 y.v).setCell 1 (.int .i64 y.G)).setCell 2 (.bool y.cut), h.cx.2⟩, h.l.sn s8 (by decide) (by decide) (by decide) (fun r _ => by omega), fun z hz => (by cases hz), h.ne⟩
theorem Pj.writeW (h : Pj A w0 own W p L ps cp d d' wb q y y' xb lv vs mv us Lv Lu X) : Pj A w0 own (((W.setCell ⟨wb, 0, none⟩ d.v).setCell ⟨wb, 1, none⟩ (.int .i64 d.G)).setCell ⟨wb, 2, none⟩ (.bool d.cut)) p L ps cp d d wb q y y' xb lv vs mv us Lv Lu [] := by
  have s8 := box_sn (c0 := d.v) (c1 := .int .i64 d.G) (c2 := .bool d.cut) h.cw
  exact ⟨h.g.sn s8 (by decide), h.tp.sn s8 (by decide) (by decide) (by decide), h.dr.sn s8 (by decide), h.dr.sn s8 (by decide), h.tq.sn s8 (fun k e => by omega), ⟨((h.cw.1.setCell 0 d.v).setCell 1 (.int .i64 d.G)).setCell 2 (.bool d.cut), h.cw.2⟩, box_oth h.cx (fun e => h.ne e.symm), h.l.sn s8 (by decide) (by decide) (by decide) (fun r _ => by omega), fun z hz => (by cases hz), h.ne⟩
/-- the box that was laid ahead of the call is written -/
theorem Pj.put {y0 y1 y2 x0 x1 x2 : Value} (hn : nb ≠ wb ∧ nb ≠ xb) (h : Pj A w0 own W p L ps cp d d' wb q y y' xb lv vs mv us Lv Lu [(nb, [y0, y1, y2])]) : Pj A w0 own (((W.setCell ⟨nb, 0, none⟩ x0).setCell ⟨nb, 1, none⟩ x1).setCell ⟨nb, 2, none⟩ x2) p L ps cp d d' wb q y y' xb lv vs mv us Lv Lu [(nb, [x0, x1, x2])] := by
  have hb := h.x _ List.mem_cons_self
  have s8 := box_sn (c0 := x0) (c1 := x1) (c2 := x2) hb
  refine ⟨h.g.sn s8 (by decide), h.tp.sn s8 (by decide) (by decide) (by decide), h.dr.sn s8 (by decide), h.dr'.sn s8 (by decide), h.tq.sn s8 (fun k e => by omega), box_oth h.cw (fun e => hn.1 e.symm), box_oth h.cx (fun e => hn.2 e.symm), h.l.sn s8 (by decide) (by decide) (by decide) (fun r _ => by omega), fun z hz => ?_, h.ne⟩
  rw [List.mem_singleton] at hz
  subst hz
  exact ⟨((hb.1.setCell 0 x0).setCell 1 x1).setCell 2 x2, hb.2⟩
theorem Pj.res {y0 y1 y2 : Value} (h : Aside (Pj A w0 own W p L ps cp d d' wb q y y' xb lv vs mv us Lv Lu [(nb, [y0, y1, y2])])) : W.cell? ⟨nb, 0, none⟩ = some y0 ∧ W.cell? ⟨nb, 1, none⟩ = some y1 ∧ W.cell? ⟨nb, 2, none⟩ = some y2 ∧ W.frozen? ⟨nb, 0, none⟩ = false ∧ W.frozen? ⟨nb, 1, none⟩ = false ∧ W.frozen? ⟨nb, 2, none⟩ = false := by
  have h2 := h.it.x _ List.mem_cons_self
  exact ⟨by rw [h2.1.cell]; rfl, by rw [h2.1.cell]; rfl, by rw [h2.1.cell]; rfl, h2.1.frozen 0, h2.1.frozen 1, h2.1.frozen 2⟩
/-- what a round reads: the box xb, an op -/
theorem Pj.h6 (ho : Aside (w0.cell? ⟨b, o, none⟩ = some (.int .i64 kd) ∧ w0.cell? ⟨b, o + 1, none⟩ = some sl ∧ w0.cell? ⟨b, o + 2, none⟩ = some (.int .i64 n))) (h : Aside (Pj A w0 own W p L ps cp d d' wb q y y' xb lv vs mv us Lv Lu X)) :
    W.cell? ⟨xb, 0, none⟩ = some y'.v ∧ W.cell? ⟨xb, 1, none⟩ = some (.int .i64 y'.G) ∧ W.cell? ⟨xb, 2, none⟩ = some (.bool y'.cut) ∧ W.cell? ⟨b, o, none⟩ = some (.int .i64 kd) ∧ W.cell? ⟨b, o + 1, none⟩ = some sl ∧ W.cell? ⟨b, o + 2, none⟩ = some (.int .i64 n) :=
  ⟨h.it.cellsX.1, h.it.cellsX.2.1, h.it.cellsX.2.2.1, h.it.g.cell ho.it.1, h.it.g.cell ho.it.2.1, h.it.g.cell ho.it.2.2⟩
theorem Pj.h6d {yv : Value} {yA : List Int} {yG : Nat} {yc : Bool} (ho : Aside (w0.cell? ⟨b, o, none⟩ = some (.int .i64 kd) ∧ w0.cell? ⟨b, o + 1, none⟩ = some sl ∧ w0.cell? ⟨b, o + 2, none⟩ = some (.int .i64 n))) (h : Aside (Pj A w0 own W p L ps cp d d' wb q y ⟨yv, yA, yG, yc⟩ xb lv vs mv us Lv Lu X)) :
    W.cell? ⟨xb, 0, none⟩ = some yv ∧ W.cell? ⟨xb, 1, none⟩ = some (.int .i64 yG) ∧ W.cell? ⟨xb, 2, none⟩ = some (.bool yc) ∧ W.cell? ⟨b, o, none⟩ = some (.int .i64 kd) ∧ W.cell? ⟨b, o + 1, none⟩ = some sl ∧ W.cell? ⟨b, o + 2, none⟩ = some (.int .i64 n) :=
  Pj.h6 ho h
theorem Pj.h6A (ho : Aside (w0.cell? ⟨b, o, none⟩ = some (.int .i64 kd) ∧ w0.cell? ⟨b, o + 1, none⟩ = some sl ∧ w0.cell? ⟨b, o + 2, none⟩ = some (.int .i64 n))) (h : Aside (Pj A w0 own W p L ps cp d d' wb q y y' xb lv vs mv us Lv Lu X)) {oc : Obj} :
    (W.alloc oc).cell? ⟨xb, 0, none⟩ = some y'.v ∧ (W.alloc oc).cell? ⟨xb, 1, none⟩ = some (.int .i64 y'.G) ∧ (W.alloc oc).cell? ⟨xb, 2, none⟩ = some (.bool y'.cut) ∧ (W.alloc oc).cell? ⟨b, o, none⟩ = some (.int .i64 kd) ∧ (W.alloc oc).cell? ⟨b, o + 1, none⟩ = some sl ∧ (W.alloc oc).cell? ⟨b, o + 2, none⟩ = some (.int .i64 n) :=
  Pj.h6 ho ⟨h.it.quiet ((Keeps.refl _ _).alloc oc)⟩
theorem Pj.h6Ad {yv : Value} {yA : List Int} {yG : Nat} {yc : Bool} (ho : Aside (w0.cell? ⟨b, o, none⟩ = some (.int .i64 kd) ∧ w0.cell? ⟨b, o + 1, none⟩ = some sl ∧ w0.cell? ⟨b, o + 2, none⟩ = some (.int .i64 n))) (h : Aside (Pj A w0 own W p L ps cp d d' wb q y ⟨yv, yA, yG, yc⟩ xb lv vs mv us Lv Lu X)) {oc : Obj} :
    (W.alloc oc).cell? ⟨xb, 0, none⟩ = some yv ∧ (W.alloc oc).cell? ⟨xb, 1, none⟩ = some (.int .i64 yG) ∧ (W.alloc oc).cell? ⟨xb, 2, none⟩ = some (.bool yc) ∧ (W.alloc oc).cell? ⟨b, o, none⟩ = some (.int .i64 kd) ∧ (W.alloc oc).cell? ⟨b, o + 1, none⟩ = some sl ∧ (W.alloc oc).cell? ⟨b, o + 2, none⟩ = some (.int .i64 n) :=
  Pj.h6 ho ⟨h.it.quiet ((Keeps.refl _ _).alloc oc)⟩
theorem Pj.h6S (hn : nb ≠ wb ∧ nb ≠ xb) (ho : Aside (w0.cell? ⟨b, o, none⟩ = some (.int .i64 kd) ∧ w0.cell? ⟨b, o + 1, none⟩ = some sl ∧ w0.cell? ⟨b, o + 2, none⟩ = some (.int .i64 n))) {y0 y1 y2 x0 x1 x2 : Value} (h : Aside (Pj A w0 own W p L ps cp d d' wb q y y' xb lv vs mv us Lv Lu [(nb, [y0, y1, y2])])) :
    (((W.setCell ⟨nb, 0, none⟩ x0).setCell ⟨nb, 1, none⟩ x1).setCell ⟨nb, 2, none⟩ x2).cell? ⟨xb, 0, none⟩ = some y'.v ∧ (((W.setCell ⟨nb, 0, none⟩ x0).setCell ⟨nb, 1, none⟩ x1).setCell ⟨nb, 2, none⟩ x2).cell? ⟨xb, 1, none⟩ = some (.int .i64 y'.G) ∧ (((W.setCell ⟨nb, 0, none⟩ x0).setCell ⟨nb, 1, none⟩ x1).setCell ⟨nb, 2, none⟩ x2).cell? ⟨xb, 2, none⟩ = some (.bool y'.cut) ∧ (((W.setCell ⟨nb, 0, none⟩ x0).setCell ⟨nb, 1, none⟩ x1).setCell ⟨nb, 2, none⟩ x2).cell? ⟨b, o, none⟩ = some (.int .i64 kd) ∧ (((W.setCell ⟨nb, 0, none⟩ x0).setCell ⟨nb, 1, none⟩ x1).setCell ⟨nb, 2, none⟩ x2).cell? ⟨b, o + 1, none⟩ = some sl ∧ (((W.setCell ⟨nb, 0, none⟩ x0).setCell ⟨nb, 1, none⟩ x1).setCell ⟨nb, 2, none⟩ x2).cell? ⟨b, o + 2, none⟩ = some (.int .i64 n) :=
  Pj.h6 ho ⟨h.it.put hn⟩
theorem Pj.h6Sd {yv : Value} {yA : List Int} {yG : Nat} {yc : Bool} (hn : nb ≠ wb ∧ nb ≠ xb) (ho : Aside (w0.cell? ⟨b, o, none⟩ = some (.int .i64 kd) ∧ w0.cell? ⟨b, o + 1, none⟩ = some sl ∧ w0.cell? ⟨b, o + 2, none⟩ = some (.int .i64 n))) {y0 y1 y2 x0 x1 x2 : Value} (h : Aside (Pj A w0 own W p L ps cp d d' wb q y ⟨yv, yA, yG, yc⟩ xb lv vs mv us Lv Lu [(nb, [y0, y1, y2])])) :
    (((W.setCell ⟨nb, 0, none⟩ x0).setCell ⟨nb, 1, none⟩ x1).setCell ⟨nb, 2, none⟩ x2).cell? ⟨xb, 0, none⟩ = some yv ∧ (((W.setCell ⟨nb, 0, none⟩ x0).setCell ⟨nb, 1, none⟩ x1).setCell ⟨nb, 2, none⟩ x2).cell? ⟨xb, 1, none⟩ = some (.int .i64 yG) ∧ (((W.setCell ⟨nb, 0, none⟩ x0).setCell ⟨nb, 1, none⟩ x1).setCell ⟨nb, 2, none⟩ x2).cell? ⟨xb, 2, none⟩ = some (.bool yc) ∧ (((W.setCell ⟨nb, 0, none⟩ x0).setCell ⟨nb, 1, none⟩ x1).setCell ⟨nb, 2, none⟩ x2).cell? ⟨b, o, none⟩ = some (.int .i64 kd) ∧ (((W.setCell ⟨nb, 0, none⟩ x0).setCell ⟨nb, 1, none⟩ x1).setCell ⟨nb, 2, none⟩ x2).cell? ⟨b, o + 1, none⟩ = some sl ∧ (((W.setCell ⟨nb, 0, none⟩ x0).setCell ⟨nb, 1, none⟩ x1).setCell ⟨nb, 2, none⟩ x2).cell? ⟨b, o + 2, none⟩ = some (.int .i64 n) :=
  Pj.h6 ho ⟨h.it.put hn⟩
/-- and the round's own op, in its box ob -/
structure Pk (A : Nat → Addr) (w0 : World) (own : Nat → Nat) (W : World) (p : Nat) (L : List Int) (ps : Nat) (cp : Bool) (d d' : Dp) (wb q : Nat) (y : Dp) (xb : Nat) (lv : Value) (vs : List Value) (mv : Value) (us : List Value) (Lv Lu : List (List Int)) (X : List (Nat × List Value)) (ob : Nat) (kd : Int) (sl : Value) (n : Int) : Prop where
  j : Pj A w0 own W p L ps cp d d' wb q y y xb lv vs mv us Lv Lu X
  o : CellsO own 8 W ob 32 [.int .i64 kd, sl, .int .i64 n]
theorem Pk.quiet (h : Pk A w0 own W p L ps cp d d' wb q y xb lv vs mv us Lv Lu X ob kd sl n) (hk : Keeps Nowhere W w') : Pk A w0 own w' p L ps cp d d' wb q y xb lv vs mv us Lv Lu X ob kd sl n := ⟨h.j.quiet hk, h.o.sn (I := fun _ => False) (Sn.same hk) (fun x => x)⟩
theorem Pk.step (h : Pk A w0 own W p L ps cp d d' wb q y xb lv vs mv us Lv Lu X ob kd sl n) (hk : Keeps Nowhere W w') (r : Nat) : Pk A w0 (give own W.heap.size r) w' p L ps cp d d' wb q y xb lv vs mv us Lv Lu X ob kd sl n := ⟨h.j.step hk r, h.o.sn (I := fun _ => False) (Sn.quiet hk r) (fun x => x)⟩
theorem Pk.cells (h : Pk A w0 own W p L ps cp d d' wb q y xb lv vs mv us Lv Lu X ob kd sl n) : W.cell? ⟨ob, 0, none⟩ = some (.int .i64 kd) ∧ W.cell? ⟨ob, 1, none⟩ = some sl ∧ W.cell? ⟨ob, 2, none⟩ = some (.int .i64 n) := ⟨by rw [h.o.1.cell]; rfl, by rw [h.o.1.cell]; rfl, by rw [h.o.1.cell]; rfl⟩
theorem Pk.box (h : Pk A w0 own W p L ps cp d d' wb q y xb lv vs mv us Lv Lu X ob kd sl n) (c0 c1 c2 : Value) : Pk A w0 (give own W.heap.size 8) (W.alloc (.cells #[c0, c1, c2] 28)) p L ps cp d d' wb q y xb lv vs mv us Lv Lu ((W.heap.size, [c0, c1, c2]) :: X) ob kd sl n := ⟨h.j.box c0 c1 c2, h.o.sn (I := fun _ => False) (Sn.quiet ((Keeps.refl _ _).alloc _) 8) (fun x => x)⟩
theorem Pk.prog (h : Pk A w0 own W p L ps cp d d' wb q y xb lv vs mv us Lv Lu X ob kd sl n) {L2 : List Int} {ps2 : Nat} {cp2 : Bool} (ht : PpO own2 10 w' p L2 ps2 cp2) (s : Sn (I19 10) own W own2 w') : Pk A w0 own2 w' p L2 ps2 cp2 d d' wb q y xb lv vs mv us Lv Lu X ob kd sl n := ⟨h.j.prog ht s, h.o.sn s (by show ¬ (_ ∨ _ ∨ _); omega)⟩
theorem xb_of {k : Nat} {v : Value} {l : List Int} (h : RowB own (100 + 2 * k) W v l) : XB own W k v l := ⟨h.1, fun b hb => ⟨h.2 b hb, owns_lt h.1 b hb⟩⟩
theorem XB.rd {k : Nat} {v : Value} {l : List Int} (h : XB own W k v l) : Rd W v l := OwnB.rd (B := 0) h.1
theorem Pj.op (h : Pj A w0 own W p L ps cp d d' wb q y y xb lv vs mv us Lv Lu X) (kd : Int) (sl : Value) (n : Int) : Pk A w0 (give own W.heap.size 8) (W.alloc (opc kd sl n)) p L ps cp d d' wb q y xb lv vs mv us Lv Lu X W.heap.size kd sl n := ⟨h.step ((Keeps.refl _ _).alloc _) 8, ⟨Cells.new W _ _, give_new (Nat.le_refl _)⟩⟩
end
end Go.Proofs.YtpmmjekaefemeaaDoor
