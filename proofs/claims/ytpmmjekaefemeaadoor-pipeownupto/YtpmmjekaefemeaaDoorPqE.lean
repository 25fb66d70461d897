/-
  layer 19's laws: what lies in memory within a step
-/
import Derived.Test.YtpmmjekaefemeaaDoorPqD
import Derived.Test.YtpmmjekaefemeaaDoorCodedZ
import Derived.Deep.RegionHeld3
namespace Go.Proofs.YtpmmjekaefemeaaDoor
open Go.RowKit

section
variable {A : Nat → Addr} {own own' own2 : Nat → Nat} {w w' w0 W : World} {Lp b ALL ns : List Int} {v sl : Value} {i p ps G bx nb : Nat} {cut cp : Bool} {I : Nat → Prop} {kd n : Int}

/-- bytes that are read; if there are any, in a block that is j's -/
def RdQ (own : Nat → Nat) (j : Nat) (w : World) (v : Value) (ns : List Int) : Prop := Rd w v ns ∧ (ns ≠ [] → ∀ g, v.ownBlock = some g → g < w.heap.size ∧ own g = j)
theorem RdQ.shape {j : Nat} (h : RdQ own j w v ns) : ∃ a c, v = .slice a ns.length c := h.1.shape
theorem rd_empty {a : Option Addr} {l c : Nat} (h : Rd w (.slice a l c) []) : Rd w' (.slice a l c) [] := by
  obtain ⟨⟨a', c', e, hl, _⟩, h2⟩ := h
  exact ⟨⟨a', c', e, hl, fun j u hj => by simp [bv] at hj⟩, h2⟩
theorem RdQ.sn {j : Nat} (h : RdQ own j w v ns) (s : Sn I own w own' w') (hj : ¬ I j) : RdQ own' j w' v ns := by
  by_cases hn : ns = []
  · subst hn
    obtain ⟨a, c, rfl⟩ := h.1.shape
    exact ⟨rd_empty h.1, fun e => absurd rfl e⟩
  · exact ⟨h.1.keep s.keeps (fun g hg e => hj ((h.2 hn g hg).2 ▸ e)), fun _ g hg => ⟨Nat.lt_of_lt_of_le (h.2 hn g hg).1 s.keeps.size, (s.agree g (h.2 hn g hg).1).trans (h.2 hn g hg).2⟩⟩
theorem RdQ.ground (hg : OnG A w0 own W) (h : Rd w0 v ns) : RdQ own 0 W v ns := by
  refine ⟨h.later hg.g.bel, fun hn g e => ?_⟩
  obtain ⟨g', o, c, rfl, _, hc⟩ := h.at hn
  obtain ⟨y, ys, rfl⟩ := List.exists_cons_of_ne_nil hn
  have := World.block_lt_of_cell? w0 _ (hc 0 _ rfl)
  simp only [Value.ownBlock, Option.some.injEq] at e
  subst e
  exact ⟨Nat.lt_of_lt_of_le this hg.g.size, hg.g.zero _ this⟩
/-- a pipe (owners i to i+3) and the document's (i+4) -/
structure Tp (own : Nat → Nat) (i : Nat) (W : World) (p : Nat) (v : Value) (ALL : List Int) (G : Nat) (cut : Bool) : Prop where
  t : PpO own i W p (und ALL G cut) G cut
  d : RdO own (i + 4) W v ALL
  g : G ≤ ALL.length
theorem Tp.sn (h : Tp own i W p v ALL G cut) (s : Sn I own W own' w') (hI : ∀ k, I k → k < i ∨ i + 4 < k) : Tp own' i w' p v ALL G cut :=
  ⟨h.t.sn s (fun e => by have := hI _ e; omega) (fun e => by have := hI _ e; omega) (fun e => by have := hI _ e; omega), h.d.sn s (fun e => by have := hI _ e; omega), h.g⟩
theorem Tp.quiet (h : Tp own i W p v ALL G cut) (hk : Keeps Nowhere W w') : Tp own i w' p v ALL G cut := h.sn (I := fun _ => False) (Sn.same hk) (fun _ x => x.elim)
theorem Tp.slc (h : Tp own i W p v ALL G cut) : ∃ a c, v = .slice a ALL.length c := h.d.shape
/-- what a step leaves: at most m bytes more -/
def Ends19 (own : Nat → Nat) (i : Nat) (w : World) (p m : Nat) (e : Ending) (w' : World) : Prop :=
  ∃ a l c G' cut' own', e = .returned (.tuple #[dz (.slice a l c) ((G' : Nat) : Int) cut', .bool true]) ∧ Aside (∃ ALL' : List Int, ALL'.length ≤ m ∧ Tp own' i w' p (.slice a l c) ALL' G' cut' ∧ Sn (I19 i) own w own' w')
/-- within a step, above the caller's world w; boxes are owner 8's -/
structure Sx (own : Nat → Nat) (i : Nat) (w : World) (own' : Nat → Nat) (W : World) (p : Nat) (Lp : List Int) (ps : Nat) (cp : Bool) (bx : Nat) (v : Value) (ALL : List Int) (G : Nat) (cut : Bool) (kd : Int) (sl : Value) (ns : List Int) (n : Int) : Prop where
  t : PpO own' i W p Lp ps cp
  d : RdO own' (i + 4) W v ALL
  o : RdQ own' 0 W sl ns
  c0 : CellsO own' 8 W bx 28 [v, .int .i64 G, .bool cut]
  c1 : CellsO own' 8 W (bx + 1) 32 [.int .i64 kd, sl, .int .i64 n]
  c2 : ∃ r0 r1 r2, CellsO own' 8 W (bx + 1 + 1) 28 [r0, r1, r2]
  n : Sn (I19 i) own w own' W
  b : w.heap.size ≤ bx
theorem Sx.sn (h : Sx own i w own' W p Lp ps cp bx v ALL G cut kd sl ns n) (s : Sn I own' W own2 w') (hI : ∀ k, ¬ I k) : Sx own i w own2 w' p Lp ps cp bx v ALL G cut kd sl ns n := by
  obtain ⟨r0, r1, r2, h2⟩ := h.c2
  exact ⟨h.t.sn s (hI _) (hI _) (hI _), h.d.sn s (hI _), h.o.sn s (hI _), h.c0.sn s (hI _), h.c1.sn s (hI _), ⟨r0, r1, r2, h2.sn s (hI _)⟩, h.n.trans (s.mono (fun k e => (hI k e).elim)), h.b⟩
theorem Sx.quiet (h : Sx own i w own' W p Lp ps cp bx v ALL G cut kd sl ns n) (hk : Keeps Nowhere W w') : Sx own i w own' w' p Lp ps cp bx v ALL G cut kd sl ns n := h.sn (I := fun _ => False) (Sn.same hk) (fun _ x => x)
theorem Sx.step (h : Sx own i w own' W p Lp ps cp bx v ALL G cut kd sl ns n) (hk : Keeps Nowhere W w') (r : Nat) : Sx own i w (give own' W.heap.size r) w' p Lp ps cp bx v ALL G cut kd sl ns n := h.sn (I := fun _ => False) (Sn.quiet hk r) (fun _ x => x)
/-- the program's call has changed its pipe -/
theorem Sx.prog (hi : 10 ≤ i) (h : Sx own i w own' W p Lp ps cp bx v ALL G cut kd sl ns n) {L' : List Int} {ps' : Nat} {cp' : Bool} (ht : PpO own2 i w' p L' ps' cp') (s : Sn (I19 i) own' W own2 w') : Sx own i w own2 w' p L' ps' cp' bx v ALL G cut kd sl ns n := by
  obtain ⟨r0, r1, r2, h2⟩ := h.c2
  have e8 : ¬ I19 i 8 := by show ¬ (_ ∨ _ ∨ _); omega
  have e0 : ¬ I19 i 0 := by show ¬ (_ ∨ _ ∨ _); omega
  have e4 : ¬ I19 i (i + 4) := by show ¬ (_ ∨ _ ∨ _); omega
  exact ⟨ht, h.d.sn s e4, h.o.sn s e0, h.c0.sn s e8, h.c1.sn s e8, ⟨r0, r1, r2, h2.sn s e8⟩, h.n.trans s, h.b⟩
theorem Sx.cells (h : Aside (Sx own i w own' W p Lp ps cp bx v ALL G cut kd sl ns n)) : W.cell? ⟨bx, 0, none⟩ = some v ∧ W.cell? ⟨bx, 1, none⟩ = some (.int .i64 G) ∧ W.cell? ⟨bx, 2, none⟩ = some (.bool cut) ∧ W.cell? ⟨bx + 1, 0, none⟩ = some (.int .i64 kd) ∧ W.cell? ⟨bx + 1, 1, none⟩ = some sl ∧ W.cell? ⟨bx + 1, 2, none⟩ = some (.int .i64 n) :=
  ⟨by rw [h.it.c0.1.cell]; rfl, by rw [h.it.c0.1.cell]; rfl, by rw [h.it.c0.1.cell]; rfl, by rw [h.it.c1.1.cell]; rfl, by rw [h.it.c1.1.cell]; rfl, by rw [h.it.c1.1.cell]; rfl⟩
theorem Sx.cellsS (h : Aside (Sx own i w own' W p Lp ps cp bx v ALL G cut kd sl ns n)) {x y z : Value} : (((W.setCell ⟨bx + 1 + 1, 0, none⟩ x).setCell ⟨bx + 1 + 1, 1, none⟩ y).setCell ⟨bx + 1 + 1, 2, none⟩ z).cell? ⟨bx, 0, none⟩ = some v ∧ (((W.setCell ⟨bx + 1 + 1, 0, none⟩ x).setCell ⟨bx + 1 + 1, 1, none⟩ y).setCell ⟨bx + 1 + 1, 2, none⟩ z).cell? ⟨bx, 1, none⟩ = some (.int .i64 G) ∧ (((W.setCell ⟨bx + 1 + 1, 0, none⟩ x).setCell ⟨bx + 1 + 1, 1, none⟩ y).setCell ⟨bx + 1 + 1, 2, none⟩ z).cell? ⟨bx, 2, none⟩ = some (.bool cut) ∧
    (((W.setCell ⟨bx + 1 + 1, 0, none⟩ x).setCell ⟨bx + 1 + 1, 1, none⟩ y).setCell ⟨bx + 1 + 1, 2, none⟩ z).cell? ⟨bx + 1, 0, none⟩ = some (.int .i64 kd) ∧ (((W.setCell ⟨bx + 1 + 1, 0, none⟩ x).setCell ⟨bx + 1 + 1, 1, none⟩ y).setCell ⟨bx + 1 + 1, 2, none⟩ z).cell? ⟨bx + 1, 1, none⟩ = some sl ∧ (((W.setCell ⟨bx + 1 + 1, 0, none⟩ x).setCell ⟨bx + 1 + 1, 1, none⟩ y).setCell ⟨bx + 1 + 1, 2, none⟩ z).cell? ⟨bx + 1, 2, none⟩ = some (.int .i64 n) := by
  have e0 := ((h.it.c0.1.setOther ⟨bx + 1 + 1, 0, none⟩ x (by simp; omega)).setOther ⟨bx + 1 + 1, 1, none⟩ y (by simp; omega)).setOther ⟨bx + 1 + 1, 2, none⟩ z (by simp; omega)
  have e1 := ((h.it.c1.1.setOther ⟨bx + 1 + 1, 0, none⟩ x (by simp)).setOther ⟨bx + 1 + 1, 1, none⟩ y (by simp)).setOther ⟨bx + 1 + 1, 2, none⟩ z (by simp)
  exact ⟨by rw [e0.cell]; rfl, by rw [e0.cell]; rfl, by rw [e0.cell]; rfl, by rw [e1.cell]; rfl, by rw [e1.cell]; rfl, by rw [e1.cell]; rfl⟩
theorem Sx.res (h : Aside (Sx own i w own' W p Lp ps cp bx v ALL G cut kd sl ns n)) : ∃ r0 r1 r2, W.cell? ⟨bx + 1 + 1, 0, none⟩ = some r0 ∧ W.cell? ⟨bx + 1 + 1, 1, none⟩ = some r1 ∧ W.cell? ⟨bx + 1 + 1, 2, none⟩ = some r2 ∧ W.frozen? ⟨bx + 1 + 1, 0, none⟩ = false ∧ W.frozen? ⟨bx + 1 + 1, 1, none⟩ = false ∧ W.frozen? ⟨bx + 1 + 1, 2, none⟩ = false := by
  obtain ⟨r0, r1, r2, h2⟩ := h.it.c2
  exact ⟨r0, r1, r2, by rw [h2.1.cell]; rfl, by rw [h2.1.cell]; rfl, by rw [h2.1.cell]; rfl, h2.1.frozen 0, h2.1.frozen 1, h2.1.frozen 2⟩
/-- the answer's box is written: the document's pipe behind the step -/
theorem Sx.fin {a : Option Addr} {l c m G2 : Nat} {cut2 : Bool} {ALL2 : List Int} (hi : 10 ≤ i) (h : Aside (Sx own i w own' W p (und ALL2 G2 cut2) G2 cut2 bx v ALL G cut kd sl ns n)) (hd : Aside (RdO own' (i + 4) W (.slice a l c) ALL2)) (hm : ALL2.length ≤ m) (hg : G2 ≤ ALL2.length) :
    ∃ F, F = (((W.setCell ⟨bx + 1 + 1, 0, none⟩ (.slice a l c)).setCell ⟨bx + 1 + 1, 1, none⟩ (.int .i64 G2)).setCell ⟨bx + 1 + 1, 2, none⟩ (.bool cut2)) ∧ F.cell? ⟨bx + 1 + 1, 0, none⟩ = some (.slice a l c) ∧ F.cell? ⟨bx + 1 + 1, 1, none⟩ = some (.int .i64 G2) ∧ F.cell? ⟨bx + 1 + 1, 2, none⟩ = some (.bool cut2) ∧
      Aside (Ends19 own i w p m (.returned (.tuple #[dz (.slice a l c) ((G2 : Nat) : Int) cut2, .bool true])) F) := by
  obtain ⟨r0, r1, r2, h2⟩ := h.it.c2
  have e2 := ((h2.1.setCell 0 (.slice a l c)).setCell 1 (.int .i64 G2)).setCell 2 (.bool cut2)
  have s8 : Sn (fun k => k = 8) own' W own' (((W.setCell ⟨bx + 1 + 1, 0, none⟩ (.slice a l c)).setCell ⟨bx + 1 + 1, 1, none⟩ (.int .i64 G2)).setCell ⟨bx + 1 + 1, 2, none⟩ (.bool cut2)) := ⟨fun _ _ => rfl, (((Keeps.refl _ _).setCell _ _ (fun _ => h2.2)).setCell _ _ (fun _ => h2.2)).setCell _ _ (fun _ => h2.2)⟩
  refine ⟨_, rfl, by rw [e2.cell]; rfl, by rw [e2.cell]; rfl, by rw [e2.cell]; rfl, ⟨a, l, c, G2, cut2, own', rfl, ⟨ALL2, hm, ⟨h.it.t.sn s8 (by omega) (by omega) (by omega), hd.it.sn s8 (by omega), hg⟩, ⟨h.it.n.agree, ?_⟩⟩⟩⟩
  exact h.it.n.keeps.next (S' := fun k => k = bx + 1 + 1) ((((Keeps.refl (fun k => k = bx + 1 + 1) W).setCell ⟨bx + 1 + 1, 0, none⟩ _ (fun _ => rfl)).setCell ⟨bx + 1 + 1, 1, none⟩ _ (fun _ => rfl)).setCell ⟨bx + 1 + 1, 2, none⟩ _ (fun _ => rfl)) (fun k e hlt => by have := h.it.b; omega)
/-- a step that leaves the document's pipe as it is -/
def Ends19L (own : Nat → Nat) (i : Nat) (w : World) (p : Nat) (v : Value) (ALL : List Int) (G : Nat) (cut : Bool) (e : Ending) (w' : World) : Prop :=
  ∃ own', e = .returned (.tuple #[dz v ((G : Nat) : Int) cut, .bool true]) ∧ Aside (Tp own' i w' p v ALL G cut ∧ Sn (I19 i) own w own' w')
theorem Ends19L.drew {e : Ending} (h : Ends19L own i w p v ALL G cut e W) : Ends19L own i w p v ALL G cut e W.drew := by
  obtain ⟨own', he, X⟩ := h
  exact ⟨own', he, ⟨X.it.1.quiet (Keeps.refl _ _).drew, ⟨X.it.2.agree, X.it.2.keeps.drew⟩⟩⟩
theorem Sx.finL {a : Option Addr} {l c : Nat} (hi : 10 ≤ i) (h : Aside (Sx own i w own' W p (und ALL G cut) G cut bx (.slice a l c) ALL G cut kd sl ns n)) (hg : G ≤ ALL.length) :
    ∃ F, F = (((W.setCell ⟨bx + 1 + 1, 0, none⟩ (.slice a l c)).setCell ⟨bx + 1 + 1, 1, none⟩ (.int .i64 G)).setCell ⟨bx + 1 + 1, 2, none⟩ (.bool cut)) ∧ F.cell? ⟨bx + 1 + 1, 0, none⟩ = some (.slice a l c) ∧ F.cell? ⟨bx + 1 + 1, 1, none⟩ = some (.int .i64 G) ∧ F.cell? ⟨bx + 1 + 1, 2, none⟩ = some (.bool cut) ∧
      Aside (Ends19L own i w p (.slice a l c) ALL G cut (.returned (.tuple #[dz (.slice a l c) ((G : Nat) : Int) cut, .bool true])) F) := by
  obtain ⟨r0, r1, r2, h2⟩ := h.it.c2
  have e2 := ((h2.1.setCell 0 (.slice a l c)).setCell 1 (.int .i64 G)).setCell 2 (.bool cut)
  have s8 : Sn (fun k => k = 8) own' W own' (((W.setCell ⟨bx + 1 + 1, 0, none⟩ (.slice a l c)).setCell ⟨bx + 1 + 1, 1, none⟩ (.int .i64 G)).setCell ⟨bx + 1 + 1, 2, none⟩ (.bool cut)) := ⟨fun _ _ => rfl, (((Keeps.refl _ _).setCell _ _ (fun _ => h2.2)).setCell _ _ (fun _ => h2.2)).setCell _ _ (fun _ => h2.2)⟩
  refine ⟨_, rfl, by rw [e2.cell]; rfl, by rw [e2.cell]; rfl, by rw [e2.cell]; rfl, ⟨own', rfl, ⟨⟨h.it.t.sn s8 (by omega) (by omega) (by omega), h.it.d.sn s8 (by omega), hg⟩, ⟨h.it.n.agree, ?_⟩⟩⟩⟩
  exact h.it.n.keeps.next (S' := fun k => k = bx + 1 + 1) ((((Keeps.refl (fun k => k = bx + 1 + 1) W).setCell ⟨bx + 1 + 1, 0, none⟩ _ (fun _ => rfl)).setCell ⟨bx + 1 + 1, 1, none⟩ _ (fun _ => rfl)).setCell ⟨bx + 1 + 1, 2, none⟩ _ (fun _ => rfl)) (fun k e hlt => by have := h.it.b; omega)
theorem Ends19.drew {m : Nat} {e : Ending} (h : Ends19 own i w p m e W) : Ends19 own i w p m e W.drew := by
  obtain ⟨a, l, c, G', cut', own', he, X⟩ := h
  obtain ⟨ALL', h1, h2, h3⟩ := X.it
  exact ⟨a, l, c, G', cut', own', he, ⟨ALL', h1, h2.quiet (Keeps.refl _ _).drew, ⟨h3.agree, h3.keeps.drew⟩⟩⟩
/-- the boxes of a step -/
abbrev opc (kd : Int) (sl : Value) (n : Int) : Obj := .cells #[.int .i64 kd, sl, .int .i64 n] 32
theorem Sx.start (h : Tp own i w p v ALL G cut) (ho : RdQ own 0 w sl ns) (kd n : Int) : Sx own i w (give own w.heap.size 8) (((w.alloc (dzc v G cut)).alloc (opc kd sl n)).alloc (dzc (.slice none 0 0) 0 false)) p (und ALL G cut) G cut w.heap.size v ALL G cut kd sl ns n := by
  have K : Keeps Nowhere w (((w.alloc (dzc v G cut)).alloc (opc kd sl n)).alloc (dzc (.slice none 0 0) 0 false)) := (((Keeps.refl _ _).alloc _).alloc _).alloc _
  have s : Sn (fun _ => False) own w (give own w.heap.size 8) (((w.alloc (dzc v G cut)).alloc (opc kd sl n)).alloc (dzc (.slice none 0 0) 0 false)) := Sn.quiet K 8
  refine ⟨h.t.sn s (fun x => x) (fun x => x) (fun x => x), h.d.sn s (fun x => x), ho.sn s (fun x => x), ⟨?_, give_new (by omega)⟩, ⟨?_, give_new (by omega)⟩, ⟨.slice none 0 0, .int .i64 0, .bool false, ⟨?_, give_new (by omega)⟩⟩, s.mono (fun _ x => x.elim), Nat.le_refl _⟩
  · exact (Cells.new w _ [v, .int .i64 G, .bool cut]).later (S := Nowhere) (((Keeps.refl _ _).alloc _).alloc _) (fun x => x)
  · have h := Cells.new (w.alloc (dzc v G cut)) 32 [.int .i64 kd, sl, .int .i64 n]
    rw [World.size_alloc] at h
    exact h.later (S := Nowhere) ((Keeps.refl _ _).alloc _) (fun x => x)
  · have h := Cells.new ((w.alloc (dzc v G cut)).alloc (opc kd sl n)) 28 [.slice none 0 0, .int .i64 0, .bool false]
    rw [World.size_alloc, World.size_alloc] at h
    exact h
/-- the document's next pipe in its box nb -/
structure Sy (own : Nat → Nat) (i : Nat) (w : World) (own' : Nat → Nat) (W : World) (p : Nat) (Lp : List Int) (ps : Nat) (cp : Bool) (bx : Nat) (v : Value) (ALL : List Int) (G : Nat) (cut : Bool) (kd : Int) (sl : Value) (ns : List Int) (n : Int) (nb : Nat) (vn : Value) (AN : List Int) (GN : Nat) (cn : Bool) : Prop where
  x : Sx own i w own' W p Lp ps cp bx v ALL G cut kd sl ns n
  d : RdO own' (i + 4) W vn AN
  c : CellsO own' 8 W nb 28 [vn, .int .i64 GN, .bool cn]
  n : ¬ nb = bx + 1 + 1
end
section
variable {A : Nat → Addr} {own own' own2 : Nat → Nat} {w w' w0 W : World} {Lp b ALL ns AN : List Int} {v sl vn : Value} {i p ps G bx nb GN : Nat} {cut cp cn : Bool} {I : Nat → Prop} {kd n : Int}
theorem Sy.quiet (h : Sy own i w own' W p Lp ps cp bx v ALL G cut kd sl ns n nb vn AN GN cn) (hk : Keeps Nowhere W w') : Sy own i w own' w' p Lp ps cp bx v ALL G cut kd sl ns n nb vn AN GN cn :=
  ⟨h.x.quiet hk, h.d.sn (I := fun _ => False) (Sn.same hk) (fun x => x), h.c.sn (I := fun _ => False) (Sn.same hk) (fun x => x), h.n⟩
theorem Sy.step (h : Sy own i w own' W p Lp ps cp bx v ALL G cut kd sl ns n nb vn AN GN cn) (hk : Keeps Nowhere W w') (r : Nat) : Sy own i w (give own' W.heap.size r) w' p Lp ps cp bx v ALL G cut kd sl ns n nb vn AN GN cn :=
  ⟨h.x.step hk r, h.d.sn (I := fun _ => False) (Sn.quiet hk r) (fun x => x), h.c.sn (I := fun _ => False) (Sn.quiet hk r) (fun x => x), h.n⟩
theorem Sy.prog (hi : 10 ≤ i) (h : Sy own i w own' W p Lp ps cp bx v ALL G cut kd sl ns n nb vn AN GN cn) {L' : List Int} {ps' : Nat} {cp' : Bool} (ht : PpO own2 i w' p L' ps' cp') (s : Sn (I19 i) own' W own2 w') : Sy own i w own2 w' p L' ps' cp' bx v ALL G cut kd sl ns n nb vn AN GN cn := by
  have e8 : ¬ I19 i 8 := by show ¬ (_ ∨ _ ∨ _); omega
  have e4 : ¬ I19 i (i + 4) := by show ¬ (_ ∨ _ ∨ _); omega
  exact ⟨h.x.prog hi ht s, h.d.sn s e4, h.c.sn s e8, h.n⟩
theorem Sy.cells (h : Aside (Sy own i w own' W p Lp ps cp bx v ALL G cut kd sl ns n nb vn AN GN cn)) : W.cell? ⟨nb, 0, none⟩ = some vn ∧ W.cell? ⟨nb, 1, none⟩ = some (.int .i64 GN) ∧ W.cell? ⟨nb, 2, none⟩ = some (.bool cn) ∧ W.cell? ⟨bx + 1, 1, none⟩ = some sl ∧ W.cell? ⟨bx + 1, 2, none⟩ = some (.int .i64 n) :=
  ⟨by rw [h.it.c.1.cell]; rfl, by rw [h.it.c.1.cell]; rfl, by rw [h.it.c.1.cell]; rfl, by rw [h.it.x.c1.1.cell]; rfl, by rw [h.it.x.c1.1.cell]; rfl⟩
theorem Sy.cellsS (h : Aside (Sy own i w own' W p Lp ps cp bx v ALL G cut kd sl ns n nb vn AN GN cn)) {x y z : Value} : (((W.setCell ⟨bx + 1 + 1, 0, none⟩ x).setCell ⟨bx + 1 + 1, 1, none⟩ y).setCell ⟨bx + 1 + 1, 2, none⟩ z).cell? ⟨nb, 0, none⟩ = some vn ∧ (((W.setCell ⟨bx + 1 + 1, 0, none⟩ x).setCell ⟨bx + 1 + 1, 1, none⟩ y).setCell ⟨bx + 1 + 1, 2, none⟩ z).cell? ⟨nb, 1, none⟩ = some (.int .i64 GN) ∧ (((W.setCell ⟨bx + 1 + 1, 0, none⟩ x).setCell ⟨bx + 1 + 1, 1, none⟩ y).setCell ⟨bx + 1 + 1, 2, none⟩ z).cell? ⟨nb, 2, none⟩ = some (.bool cn) ∧
    (((W.setCell ⟨bx + 1 + 1, 0, none⟩ x).setCell ⟨bx + 1 + 1, 1, none⟩ y).setCell ⟨bx + 1 + 1, 2, none⟩ z).cell? ⟨bx + 1, 1, none⟩ = some sl ∧ (((W.setCell ⟨bx + 1 + 1, 0, none⟩ x).setCell ⟨bx + 1 + 1, 1, none⟩ y).setCell ⟨bx + 1 + 1, 2, none⟩ z).cell? ⟨bx + 1, 2, none⟩ = some (.int .i64 n) := by
  have e0 := ((h.it.c.1.setOther ⟨bx + 1 + 1, 0, none⟩ x h.it.n).setOther ⟨bx + 1 + 1, 1, none⟩ y h.it.n).setOther ⟨bx + 1 + 1, 2, none⟩ z h.it.n
  have e1 := ((h.it.x.c1.1.setOther ⟨bx + 1 + 1, 0, none⟩ x (by simp)).setOther ⟨bx + 1 + 1, 1, none⟩ y (by simp)).setOther ⟨bx + 1 + 1, 2, none⟩ z (by simp)
  exact ⟨by rw [e0.cell]; rfl, by rw [e0.cell]; rfl, by rw [e0.cell]; rfl, by rw [e1.cell]; rfl, by rw [e1.cell]; rfl⟩
/-- the document has answered: its pipe is laid into a box -/
theorem Sx.next (h : Sx own i w own' W p Lp ps cp bx v ALL G cut kd sl ns n) (hk : Keeps Nowhere W w') (hd : RdO (give own' W.heap.size (i + 4)) (i + 4) w' vn AN) : ∃ own2, Sy own i w own2 (w'.alloc (dzc vn GN cn)) p Lp ps cp bx v ALL G cut kd sl ns n w'.heap.size vn AN GN cn := by
  have h' := h.step hk (i + 4)
  obtain ⟨r0, r1, r2, h2⟩ := h'.c2
  refine ⟨give (give own' W.heap.size (i + 4)) w'.heap.size 8, h'.step ((Keeps.refl _ _).alloc _) 8, hd.sn (I := fun _ => False) (Sn.quiet ((Keeps.refl _ _).alloc _) 8) (fun x => x), ⟨Cells.new w' _ [vn, .int .i64 GN, .bool cn], give_new (Nat.le_refl _)⟩, ?_⟩
  have := h2.1.lt
  omega
end
end Go.Proofs.YtpmmjekaefemeaaDoor
