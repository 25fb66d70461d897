/-
  layer 17's laws: what lies in memory within a step
-/
import Derived.Test.YtnmpnajmhfonhaaDoorPgQ
namespace Go.Proofs.YtnmpnajmhfonhaaDoor
open Go.RowKit

variable {A : Nat → Addr} {w w' W w0 : World} {own own' : Nat → Nat} {i r nb b : Nat} {x : Value} {m mp md mn : Pm} {v2 v3 v4 u2 u3 u4 : Value} {I : Nat → Prop} {kd : Int} {id : Nat}

abbrev rcel (m : Pm) (v2 v3 v4 : Value) : List Value := [.int .i64 m.most, .int .i64 m.last, v2, v3, v4]
/-- what a step makes of it -/
def stepM (m : Pm) (kd : Int) (id : Nat) : Pm := if kd = 0 then m.ask else if kd = 1 then m.heard id else if kd = 2 then m.told else if kd = 3 then m.asked id else m.repl
/-- a Pings (owners i, r) and the document's (owner 9) -/
structure Tp (own : Nat → Nat) (i r : Nat) (W : World) (x : Value) (m : Pm) (v2 v3 v4 : Value) : Prop where
  t : PgV own i r W x m
  d : Dm own W v2 v3 v4 m
  f : m.Fr
theorem Tp.sn (h : Tp own i r W x m v2 v3 v4) (s : Sn I own W own' w') (h1 : ¬ I i) (h2 : ¬ I r) (h9 : ¬ I 9) : Tp own' i r w' x m v2 v3 v4 := ⟨h.t.sn s h1 h2, h.d.sn s h9, h.f⟩
theorem Tp.quiet (h : Tp own i r W x m v2 v3 v4) (hk : Keeps Nowhere W w') : Tp own i r w' x m v2 v3 v4 := ⟨h.t.quiet hk, h.d.quiet hk, h.f⟩
/-- what a step leaves -/
def Ends17 (own : Nat → Nat) (i r : Nat) (w : World) (x : Value) (m : Pm) (e : Ending) (w' : World) : Prop :=
  ∃ a1 l1 c1 a2 l2 c2 a3 l3 c3 own', e = .returned (.tuple #[.agg #[.int .i64 m.most, .int .i64 m.last, .slice a1 l1 c1, .slice a2 l2 c2, .slice a3 l3 c3], .bool true]) ∧ Aside (Tp own' i r w' x m (.slice a1 l1 c1) (.slice a2 l2 c2) (.slice a3 l3 c3) ∧ Sn (fun k => k = i ∨ k = r) own w own' w')
theorem Ends17.drew {e : Ending} (h : Ends17 own i r w x m e W) : Ends17 own i r w x m e W.drew := by
  obtain ⟨a1, l1, c1, a2, l2, c2, a3, l3, c3, own', he, X⟩ := h
  exact ⟨a1, l1, c1, a2, l2, c2, a3, l3, c3, own', he, ⟨X.it.1.quiet (Keeps.refl _ _).drew, ⟨X.it.2.agree, X.it.2.keeps.drew⟩⟩⟩
/-- within a step, above the caller's world w: the program's is mp, the document's md; boxes are owner 8's -/
structure Sx (own : Nat → Nat) (i r : Nat) (w : World) (own' : Nat → Nat) (W : World) (x : Value) (mp : Pm) (b : Nat) (kd : Int) (id : Nat) (v2 v3 v4 : Value) (md : Pm) : Prop where
  t : PgV own' i r W x mp
  d : Dm own' W v2 v3 v4 md
  c0 : CellsO own' 8 W b 34 (rcel md v2 v3 v4)
  c1 : CellsO own' 8 W (b + 1) 39 [.int .i64 kd, .int .u32 (id : Nat)]
  c2 : ∃ r0 r1 r2 r3 r4, CellsO own' 8 W (b + 1 + 1) 34 [r0, r1, r2, r3, r4]
  n : Sn (fun k => k = i ∨ k = r) own w own' W
  b : w.heap.size ≤ b
theorem Sx.sn {own2 : Nat → Nat} (h : Sx own i r w own' W x mp b kd id v2 v3 v4 md) (s : Sn I own' W own2 w') (h1 : ¬ I i) (h2 : ¬ I r) (h8 : ¬ I 8) (h9 : ¬ I 9) (hI : ∀ k, I k → k = i ∨ k = r) : Sx own i r w own2 w' x mp b kd id v2 v3 v4 md := by
  obtain ⟨r0, r1, r2, r3, r4, h3⟩ := h.c2
  exact ⟨h.t.sn s h1 h2, h.d.sn s h9, h.c0.sn s h8, h.c1.sn s h8, ⟨r0, r1, r2, r3, r4, h3.sn s h8⟩, h.n.trans (s.mono hI), h.b⟩
theorem Sx.quiet (h : Sx own i r w own' W x mp b kd id v2 v3 v4 md) (hk : Keeps Nowhere W w') : Sx own i r w own' w' x mp b kd id v2 v3 v4 md := h.sn (I := fun _ => False) (Sn.same hk) (fun x => x) (fun x => x) (fun x => x) (fun x => x) (fun _ x => x.elim)
theorem Sx.step (h : Sx own i r w own' W x mp b kd id v2 v3 v4 md) (hk : Keeps Nowhere W w') (j : Nat) : Sx own i r w (give own' W.heap.size j) w' x mp b kd id v2 v3 v4 md := h.sn (I := fun _ => False) (Sn.quiet hk j) (fun x => x) (fun x => x) (fun x => x) (fun x => x) (fun _ x => x.elim)
/-- the program's call has changed it -/
theorem Sx.prog {own2 : Nat → Nat} (h : Sx own i r w own' W x mp b kd id v2 v3 v4 md) (hi : i ≠ 8 ∧ i ≠ 9 ∧ r ≠ 8 ∧ r ≠ 9) {m' : Pm} (ht : PgV own2 i r w' x m') (s : Sn (fun k => k = i ∨ k = r) own' W own2 w') : Sx own i r w own2 w' x m' b kd id v2 v3 v4 md := by
  obtain ⟨r0, r1, r2, r3, r4, h3⟩ := h.c2
  have e8 : ¬ (8 = i ∨ 8 = r) := by rintro (e | e); exact hi.1 e.symm; exact hi.2.2.1 e.symm
  have e9 : ¬ (9 = i ∨ 9 = r) := by rintro (e | e); exact hi.2.1 e.symm; exact hi.2.2.2 e.symm
  exact ⟨ht, h.d.sn s e9, h.c0.sn s e8, h.c1.sn s e8, ⟨r0, r1, r2, r3, r4, h3.sn s e8⟩, h.n.trans s, h.b⟩
theorem Sx.cells (h : Aside (Sx own i r w own' W x mp b kd id v2 v3 v4 md)) : W.cell? ⟨b, 0, none⟩ = some (.int .i64 md.most) ∧ W.cell? ⟨b, 1, none⟩ = some (.int .i64 md.last) ∧ W.cell? ⟨b, 2, none⟩ = some v2 ∧ W.cell? ⟨b, 3, none⟩ = some v3 ∧ W.cell? ⟨b, 4, none⟩ = some v4 ∧ W.cell? ⟨b + 1, 0, none⟩ = some (.int .i64 kd) ∧ W.cell? ⟨b + 1, 1, none⟩ = some (.int .u32 (id : Nat)) :=
  ⟨by rw [h.it.c0.1.cell]; rfl, by rw [h.it.c0.1.cell]; rfl, by rw [h.it.c0.1.cell]; rfl, by rw [h.it.c0.1.cell]; rfl, by rw [h.it.c0.1.cell]; rfl, by rw [h.it.c1.1.cell]; rfl, by rw [h.it.c1.1.cell]; rfl⟩
theorem Sx.res (h : Aside (Sx own i r w own' W x mp b kd id v2 v3 v4 md)) : ∃ r0 r1 r2 r3 r4, W.cell? ⟨b + 1 + 1, 0, none⟩ = some r0 ∧ W.cell? ⟨b + 1 + 1, 1, none⟩ = some r1 ∧ W.cell? ⟨b + 1 + 1, 2, none⟩ = some r2 ∧ W.cell? ⟨b + 1 + 1, 3, none⟩ = some r3 ∧ W.cell? ⟨b + 1 + 1, 4, none⟩ = some r4 ∧ W.frozen? ⟨b + 1 + 1, 0, none⟩ = false ∧ W.frozen? ⟨b + 1 + 1, 1, none⟩ = false ∧ W.frozen? ⟨b + 1 + 1, 2, none⟩ = false ∧ W.frozen? ⟨b + 1 + 1, 3, none⟩ = false ∧ W.frozen? ⟨b + 1 + 1, 4, none⟩ = false := by
  obtain ⟨r0, r1, r2, r3, r4, h2⟩ := h.it.c2
  exact ⟨r0, r1, r2, r3, r4, h2.1.cell 0, h2.1.cell 1, h2.1.cell 2, h2.1.cell 3, h2.1.cell 4, h2.1.frozen 0, h2.1.frozen 1, h2.1.frozen 2, h2.1.frozen 3, h2.1.frozen 4⟩
/-- the answer's box is written -/
theorem Sx.fin {a1 a2 a3 : Option Addr} {l1 c1 l2 c2 l3 c3 : Nat} (h : Aside (Sx own i r w own' W x mp b kd id v2 v3 v4 md)) (hd : Aside (Dm own' W (.slice a1 l1 c1) (.slice a2 l2 c2) (.slice a3 l3 c3) mp)) (hf : Aside mp.Fr) (hi : i ≠ 8 ∧ i ≠ 9 ∧ r ≠ 8 ∧ r ≠ 9) :
    Cells (set5 W (b + 1 + 1) (.int .i64 mp.most) (.int .i64 mp.last) (.slice a1 l1 c1) (.slice a2 l2 c2) (.slice a3 l3 c3)) (b + 1 + 1) 34 (rcel mp (.slice a1 l1 c1) (.slice a2 l2 c2) (.slice a3 l3 c3)) ∧
      Aside (Ends17 own i r w x mp (.returned (.tuple #[.agg #[.int .i64 mp.most, .int .i64 mp.last, .slice a1 l1 c1, .slice a2 l2 c2, .slice a3 l3 c3], .bool true])) (set5 W (b + 1 + 1) (.int .i64 mp.most) (.int .i64 mp.last) (.slice a1 l1 c1) (.slice a2 l2 c2) (.slice a3 l3 c3))) := by
  obtain ⟨r0, r1, r2, r3, r4, h2⟩ := h.it.c2
  have e2 := cells5 h2.1 (.int .i64 mp.most) (.int .i64 mp.last) (.slice a1 l1 c1) (.slice a2 l2 c2) (.slice a3 l3 c3)
  have k5 := keeps5 W (b + 1 + 1) (.int .i64 mp.most) (.int .i64 mp.last) (.slice a1 l1 c1) (.slice a2 l2 c2) (.slice a3 l3 c3)
  have s8 : Sn (fun k => k = 8) own' W own' (set5 W (b + 1 + 1) (.int .i64 mp.most) (.int .i64 mp.last) (.slice a1 l1 c1) (.slice a2 l2 c2) (.slice a3 l3 c3)) := ⟨fun _ _ => rfl, k5.mono (fun k e _ => by rw [e]; exact h2.2)⟩
  refine ⟨e2, ⟨a1, l1, c1, a2, l2, c2, a3, l3, c3, own', rfl, ⟨⟨h.it.t.sn s8 hi.1 hi.2.2.1, hd.it.sn s8 (by decide), hf.it⟩, ⟨h.it.n.agree, ?_⟩⟩⟩⟩
  exact h.it.n.keeps.next k5 (fun k e hlt => by have := h.it.b; omega)
theorem Sx.start (h : Tp own i r w x m v2 v3 v4) (kd : Int) (id : Nat) : Sx own i r w (give own w.heap.size 8) (((w.alloc (.cells #[.int .i64 m.most, .int .i64 m.last, v2, v3, v4] 34)).alloc (.cells #[.int .i64 kd, .int .u32 (id : Nat)] 39)).alloc (.cells #[.int .i64 0, .int .i64 0, .slice none 0 0, .slice none 0 0, .slice none 0 0] 34)) x m w.heap.size kd id v2 v3 v4 m := by
  have K : Keeps Nowhere w (((w.alloc (.cells #[.int .i64 m.most, .int .i64 m.last, v2, v3, v4] 34)).alloc (.cells #[.int .i64 kd, .int .u32 (id : Nat)] 39)).alloc (.cells #[.int .i64 0, .int .i64 0, .slice none 0 0, .slice none 0 0, .slice none 0 0] 34)) := (((Keeps.refl _ _).alloc _).alloc _).alloc _
  refine ⟨h.t.step K 8, h.d.step K 8, ⟨?_, give_new (by omega)⟩, ⟨?_, give_new (by omega)⟩, ⟨.int .i64 0, .int .i64 0, .slice none 0 0, .slice none 0 0, .slice none 0 0, ⟨?_, give_new (by omega)⟩⟩, (Sn.quiet K 8), Nat.le_refl _⟩
  · exact (Cells.new w _ (rcel m v2 v3 v4)).later (S := Nowhere) (((Keeps.refl _ _).alloc _).alloc _) (fun x => x)
  · have h := Cells.new (w.alloc (.cells #[.int .i64 m.most, .int .i64 m.last, v2, v3, v4] 34)) 39 [.int .i64 kd, .int .u32 (id : Nat)]
    rw [World.size_alloc] at h
    exact h.later (S := Nowhere) ((Keeps.refl _ _).alloc _) (fun x => x)
  · have h := Cells.new ((w.alloc (.cells #[.int .i64 m.most, .int .i64 m.last, v2, v3, v4] 34)).alloc (.cells #[.int .i64 kd, .int .u32 (id : Nat)] 39)) 34 [.int .i64 0, .int .i64 0, .slice none 0 0, .slice none 0 0, .slice none 0 0]
    rw [World.size_alloc, World.size_alloc] at h
    exact h
/-- the document's next (mn) in its box nb -/
structure Sy (own : Nat → Nat) (i r : Nat) (w : World) (own' : Nat → Nat) (W : World) (x : Value) (mp : Pm) (b : Nat) (kd : Int) (id : Nat) (v2 v3 v4 : Value) (md : Pm) (nb : Nat) (u2 u3 u4 : Value) (mn : Pm) : Prop where
  x : Sx own i r w own' W x mp b kd id v2 v3 v4 md
  d : Dm own' W u2 u3 u4 mn
  c : CellsO own' 8 W nb 34 (rcel mn u2 u3 u4)
  n : ¬ nb = b + 1 + 1
theorem Sy.quiet (h : Sy own i r w own' W x mp b kd id v2 v3 v4 md nb u2 u3 u4 mn) (hk : Keeps Nowhere W w') : Sy own i r w own' w' x mp b kd id v2 v3 v4 md nb u2 u3 u4 mn := ⟨h.x.quiet hk, h.d.quiet hk, h.c.sn (I := fun _ => False) (Sn.same hk) (fun x => x), h.n⟩
theorem Sy.cells (h : Aside (Sy own i r w own' W x mp b kd id v2 v3 v4 md nb u2 u3 u4 mn)) : W.cell? ⟨nb, 0, none⟩ = some (.int .i64 mn.most) ∧ W.cell? ⟨nb, 1, none⟩ = some (.int .i64 mn.last) ∧ W.cell? ⟨nb, 2, none⟩ = some u2 ∧ W.cell? ⟨nb, 3, none⟩ = some u3 ∧ W.cell? ⟨nb, 4, none⟩ = some u4 ∧ W.cell? ⟨b + 1, 1, none⟩ = some (.int .u32 (id : Nat)) :=
  ⟨by rw [h.it.c.1.cell]; rfl, by rw [h.it.c.1.cell]; rfl, by rw [h.it.c.1.cell]; rfl, by rw [h.it.c.1.cell]; rfl, by rw [h.it.c.1.cell]; rfl, by rw [h.it.x.c1.1.cell]; rfl⟩
theorem Sy.cellsS (h : Aside (Sy own i r w own' W x mp b kd id v2 v3 v4 md nb u2 u3 u4 mn)) {y0 y1 y2 y3 y4 : Value} : (fun W' : World => W'.cell? ⟨nb, 0, none⟩ = some (.int .i64 mn.most) ∧ W'.cell? ⟨nb, 1, none⟩ = some (.int .i64 mn.last) ∧ W'.cell? ⟨nb, 2, none⟩ = some u2 ∧ W'.cell? ⟨nb, 3, none⟩ = some u3 ∧ W'.cell? ⟨nb, 4, none⟩ = some u4 ∧ W'.cell? ⟨b + 1, 1, none⟩ = some (.int .u32 (id : Nat))) (((((W.setCell ⟨b + 1 + 1, 0, none⟩ y0).setCell ⟨b + 1 + 1, 1, none⟩ y1).setCell ⟨b + 1 + 1, 2, none⟩ y2).setCell ⟨b + 1 + 1, 3, none⟩ y3).setCell ⟨b + 1 + 1, 4, none⟩ y4) := by
  have k5 : Keeps (fun k => k = b + 1 + 1) W (((((W.setCell ⟨b + 1 + 1, 0, none⟩ y0).setCell ⟨b + 1 + 1, 1, none⟩ y1).setCell ⟨b + 1 + 1, 2, none⟩ y2).setCell ⟨b + 1 + 1, 3, none⟩ y3).setCell ⟨b + 1 + 1, 4, none⟩ y4) := keeps5 W (b + 1 + 1) y0 y1 y2 y3 y4
  have e0 := h.it.c.1.later k5 h.it.n
  have e1 := h.it.x.c1.1.later k5 (by omega)
  exact ⟨e0.cell 0, e0.cell 1, e0.cell 2, e0.cell 3, e0.cell 4, e1.cell 1⟩
/-- the document has answered: its Pings is laid into a box -/
theorem Sx.next (h : Sx own i r w own' W x mp b kd id v2 v3 v4 md) (hk : Keeps Nowhere W w') (hd : Dm (give own' W.heap.size 9) w' u2 u3 u4 mn) : ∃ own2, Sy own i r w own2 (w'.alloc (.cells #[.int .i64 mn.most, .int .i64 mn.last, u2, u3, u4] 34)) x mp b kd id v2 v3 v4 md w'.heap.size u2 u3 u4 mn := by
  have h' := h.step hk 9
  obtain ⟨r0, r1, r2, r3, r4, h2⟩ := h'.c2
  refine ⟨give (give own' W.heap.size 9) w'.heap.size 8, h'.step ((Keeps.refl _ _).alloc _) 8, hd.step ((Keeps.refl _ _).alloc _) 8, ⟨Cells.new w' _ (rcel mn u2 u3 u4), give_new (Nat.le_refl _)⟩, ?_⟩
  have := h2.1.lt
  omega
theorem Sy.prog {own2 : Nat → Nat} (h : Sy own i r w own' W x mp b kd id v2 v3 v4 md nb u2 u3 u4 mn) (hi : i ≠ 8 ∧ i ≠ 9 ∧ r ≠ 8 ∧ r ≠ 9) {m' : Pm} (ht : PgV own2 i r w' x m') (s : Sn (fun k => k = i ∨ k = r) own' W own2 w') : Sy own i r w own2 w' x m' b kd id v2 v3 v4 md nb u2 u3 u4 mn := by
  have e8 : ¬ (8 = i ∨ 8 = r) := by rintro (e | e); exact hi.1 e.symm; exact hi.2.2.1 e.symm
  have e9 : ¬ (9 = i ∨ 9 = r) := by rintro (e | e); exact hi.2.1 e.symm; exact hi.2.2.2 e.symm
  exact ⟨h.x.prog hi ht s, h.d.sn s e9, h.c.sn s e8, h.n⟩
end Go.Proofs.YtnmpnajmhfonhaaDoor
