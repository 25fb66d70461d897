/-
  culvertlaw03.step: what is carried through it
-/
import Derived.Test.YtnljgklmaljfjaaDoorRemoves
namespace Go.Proofs.YtnljgklmaljfjaaDoor
open Go.RowKit Fint

variable {own own' : Nat → Nat} {i j p rt rw : Nat} {q l : Things} {s : Value} {w w' w0 : World}

/-- a queue of the program with these things and the document's with those -/
structure PairAt (own : Nat → Nat) (i j : Nat) (w : World) (p rt rw : Nat) (q : Things) (s : Value) (l : Things) : Prop where
  fifo : FifoO own i w p rt rw q
  reads : ReadsK 2 w s l.length (flat l)
  refo : ∀ k, s.ownBlock = some k → own k = j ∧ k < w.heap.size

theorem Both.pair (h : Both own i j w p rt rw s q) : PairAt own i j w p rt rw q s q := ⟨h.fifo, h.reads, h.refo⟩
theorem PairAt.both (h : PairAt own i j w p rt rw q s q) : Both own i j w p rt rw s q := ⟨h.fifo, h.reads, h.refo⟩
theorem PairAt.quiet (h : PairAt own i j w p rt rw q s l) (hk : Keeps Nowhere w w') (r : Nat) : PairAt (give own w.heap.size r) i j w' p rt rw q s l :=
  ⟨h.fifo.quietG hk r, h.reads.later hk (fun _ _ x => x), fun k e => ⟨(give_old (h.refo k e).2).trans (h.refo k e).1, Nat.lt_of_lt_of_le (h.refo k e).2 hk.size⟩⟩
theorem PairAt.still (h : PairAt own i j w p rt rw q s l) (hk : Keeps Nowhere w w') : PairAt own i j w' p rt rw q s l :=
  ⟨h.fifo.quiet hk, h.reads.later hk (fun _ _ x => x), fun k e => ⟨(h.refo k e).1, Nat.lt_of_lt_of_le (h.refo k e).2 hk.size⟩⟩
theorem PairAt.ref {s' : Value} {l' : Things} (h : PairAt own i j w p rt rw q s l) (a : RefAns w w' s s' l') : PairAt (give own w.heap.size j) i j w' p rt rw q s' l' :=
  ⟨h.fifo.quietG a.keeps j, a.reads, fun k e => ⟨(a.own k e).elim (fun e' => (give_old (h.refo k e').2).trans (h.refo k e').1) give_new, a.lt k e⟩⟩
theorem PairAt.call {q' : Things} (h : PairAt own i j w p rt rw q s l) (hij : i ≠ j) (hf : FifoO (give own w.heap.size i) i w' p rt rw q') (hk : Keeps (fun k => own k = i) w w') : PairAt (give own w.heap.size i) i j w' p rt rw q' s l :=
  ⟨hf, h.reads.later hk (fun b e e' => hij (e'.symm.trans (h.refo b e).1)), fun k e => ⟨(give_old (h.refo k e).2).trans (h.refo k e).1, Nat.lt_of_lt_of_le (h.refo k e).2 hk.size⟩⟩
/-- blocks that are nobody's change -/
theorem PairAt.nobody (h : PairAt own i j w p rt rw q s l) (hi : i ≠ 0) (hj : j ≠ 0) (hk : Keeps (fun k => own k = 0) w w') : PairAt own i j w' p rt rw q s l := by
  obtain ⟨v, f, g, h1, h2, h3, h4⟩ := h.fifo
  refine ⟨⟨v, f, g, h1.later hk ?_, h2, h3, h4⟩, h.reads.later hk (fun b e e' => hj ((h.refo b e).1.symm.trans e')), fun k e => ⟨(h.refo k e).1, Nat.lt_of_lt_of_le (h.refo k e).2 hk.size⟩⟩
  rintro k (rfl | e) e'
  · exact hi (h3.symm.trans e')
  · exact hi ((h4 k e).symm.trans e')

/-- from w0 on only i's blocks have changed, and what lay there is whose it was -/
structure Since (own : Nat → Nat) (i : Nat) (w0 : World) (own' : Nat → Nat) (w : World) : Prop where
  agree : ∀ k, k < w0.heap.size → own' k = own k
  keeps : Keeps (fun k => own k = i) w0 w
theorem Since.refl (own : Nat → Nat) (i : Nat) (w : World) : Since own i w own w := ⟨fun _ _ => rfl, Keeps.refl _ _⟩
theorem Since.quiet (h : Since own i w0 own' w) (hk : Keeps Nowhere w w') (r : Nat) : Since own i w0 (give own' w.heap.size r) w' :=
  ⟨fun k hlt => (give_old (Nat.lt_of_lt_of_le hlt h.keeps.size)).trans (h.agree k hlt), h.keeps.trans hk.any⟩
theorem Since.still (h : Since own i w0 own' w) (hk : Keeps Nowhere w w') : Since own i w0 own' w' := ⟨h.agree, h.keeps.trans hk.any⟩
theorem Since.call (h : Since own i w0 own' w) (hk : Keeps (fun k => own' k = i) w w') (r : Nat) : Since own i w0 (give own' w.heap.size r) w' :=
  ⟨fun k hlt => (give_old (Nat.lt_of_lt_of_le hlt h.keeps.size)).trans (h.agree k hlt), h.keeps.next hk (fun k e hlt => (h.agree k hlt).symm.trans e)⟩
theorem Since.after {S : Nat → Prop} (h : Since own i w0 own' w) (hk : Keeps S w w') (hs : ∀ k, S k → w0.heap.size ≤ k) : Since own i w0 own' w' :=
  ⟨h.agree, h.keeps.next hk (fun k e hlt => by have := hs k e; omega)⟩

theorem Ground.since {B : Nat} {w00 : World} (g : Ground B w00 own w) (h : Since own i w own' w') (hi : i ≠ 0) : Ground B w00 own' w' := by
  refine ⟨fun k hlt => (h.agree k (Nat.lt_of_lt_of_le hlt g.size)).trans (g.zero k hlt), below_next g.bel h.keeps g.size (fun k e _ => ?_), Nat.le_trans g.size h.keeps.size⟩
  rcases Nat.lt_or_ge k B with hlt | hge
  · have := g.zero k hlt; omega
  · exact hge
/-- what step leaves -/
def Stepped (own : Nat → Nat) (i j : Nat) (w : World) (p rt rw : Nat) (q' : Things) (e : Ending) (w' : World) : Prop :=
  ∃ s' own', e = .returned (.tuple #[.agg #[.int .i64 rt, .int .i64 rw, s'], .bool true]) ∧ Aside (Both own' i j w' p rt rw s' q') ∧ Aside (Since own i w own' w')

/-- where step begins: its three boxes -/
structure Began (own : Nat → Nat) (i j : Nat) (w : World) (p rt rw : Nat) (q : Things) (a : Option Addr) (c : Nat) (kind V Wt : Int) (ws : Value) (N : Nat) (W0 : World) : Prop where
  pair : PairAt (give own w.heap.size 0) i j W0 p rt rw q (.slice a N c) q
  since : Since own i w (give own w.heap.size 0) W0
  keeps : Keeps Nowhere w W0
  box : CellsO (give own w.heap.size 0) 0 W0 w.heap.size 35 [.int .i64 rt, .int .i64 rw, .slice a N c]
  op : CellsO (give own w.heap.size 0) 0 W0 (w.heap.size + 1) 41 [.int .i64 kind, .int .i64 V, .int .i64 Wt, ws]
  res : CellsO (give own w.heap.size 0) 0 W0 (w.heap.size + 1 + 1) 35 [.int .i64 0, .int .i64 0, .slice none 0 0]

theorem began (w : World) (a : Option Addr) (c : Nat) (kind V Wt : Int) (ws : Value) (N : Nat) (hN : N = q.length) (h : Both own i j w p rt rw (.slice a q.length c) q) :
    Began own i j w p rt rw q a c kind V Wt ws N (((w.alloc (.cells #[.int .i64 rt, .int .i64 rw, .slice a N c] 35)).alloc (.cells #[.int .i64 kind, .int .i64 V, .int .i64 Wt, ws] 41)).alloc (.cells #[.int .i64 0, .int .i64 0, .slice none 0 0] 35)) := by
  subst hN
  have k : Keeps Nowhere w (((w.alloc (.cells #[.int .i64 rt, .int .i64 rw, .slice a q.length c] 35)).alloc (.cells #[.int .i64 kind, .int .i64 V, .int .i64 Wt, ws] 41)).alloc (.cells #[.int .i64 0, .int .i64 0, .slice none 0 0] 35)) := (((Keeps.refl _ _).alloc _).alloc _).alloc _
  have x1 := Cells.new w 35 [.int .i64 rt, .int .i64 rw, .slice a q.length c]
  have x2 := Cells.new (w.alloc (.cells #[.int .i64 rt, .int .i64 rw, .slice a q.length c] 35)) 41 [.int .i64 kind, .int .i64 V, .int .i64 Wt, ws]
  have x3 := Cells.new ((w.alloc (.cells #[.int .i64 rt, .int .i64 rw, .slice a q.length c] 35)).alloc (.cells #[.int .i64 kind, .int .i64 V, .int .i64 Wt, ws] 41)) 35 [.int .i64 0, .int .i64 0, .slice none 0 0]
  simp only [World.size_alloc] at x2 x3
  have y1 := x1.later (S := Nowhere) (((Keeps.refl _ _).alloc (.cells #[.int .i64 kind, .int .i64 V, .int .i64 Wt, ws] 41)).alloc (.cells #[.int .i64 0, .int .i64 0, .slice none 0 0] 35)) (fun x => x)
  have y2 := x2.later (S := Nowhere) ((Keeps.refl _ _).alloc (.cells #[.int .i64 0, .int .i64 0, .slice none 0 0] 35)) (fun x => x)
  exact ⟨h.pair.quiet k 0, (Since.refl own i w).quiet k 0, k, ⟨y1, give_new (Nat.le_refl _)⟩, ⟨y2, give_new (by omega)⟩, ⟨x3, give_new (by omega)⟩⟩

/-- where step ends: the result's box is written -/
theorem ended {own1 : Nat → Nat} {b : Nat} {q' : Things} {g0 : Option Addr} {g1 g2 : Nat} (hi : i ≠ 0) (hj : j ≠ 0) (hb : w0.heap.size ≤ b) (h : PairAt own1 i j w p rt rw q' (.slice g0 g1 g2) q') (hs : Since own i w0 own1 w)
    (hr : CellsO own1 0 w b 35 [.int .i64 0, .int .i64 0, .slice none 0 0]) (W : World) (hW : W = ((w.setCell ⟨b, 0, none⟩ (.int .i64 rt)).setCell ⟨b, 1, none⟩ (.int .i64 rw)).setCell ⟨b, 2, none⟩ (.slice g0 g1 g2)) :
    (W.cell? ⟨b, 0, none⟩ = some (.int .i64 rt) ∧ W.cell? ⟨b, 1, none⟩ = some (.int .i64 rw) ∧ W.cell? ⟨b, 2, none⟩ = some (.slice g0 g1 g2)) ∧ Aside (Both own1 i j W p rt rw (.slice g0 g1 g2) q') ∧ Aside (Since own i w0 own1 W) := by
  have hC : Cells W b 35 [.int .i64 rt, .int .i64 rw, .slice g0 g1 g2] := by
    rw [hW]
    exact ((hr.1.setCell 0 (.int .i64 rt)).setCell 1 (.int .i64 rw)).setCell 2 (.slice g0 g1 g2)
  have hk : Keeps (fun k => k = b) w W := by
    rw [hW]
    exact (((Keeps.refl (fun k => k = b) w).setCell ⟨b, 0, none⟩ _ (fun _ => rfl)).setCell ⟨b, 1, none⟩ _ (fun _ => rfl)).setCell ⟨b, 2, none⟩ _ (fun _ => rfl)
  refine ⟨⟨by rw [hC.cell]; rfl, by rw [hC.cell]; rfl, by rw [hC.cell]; rfl⟩, ⟨(h.nobody hi hj (hk.mono (fun k e _ => e ▸ hr.2))).both⟩, ⟨hs.after hk (fun k e => e ▸ hb)⟩⟩
theorem CellsO.still {g : Nat} {e : TypeId} {xs : List Value} (h : CellsO own i w g e xs) (hk : Keeps Nowhere w w') (r : Nat) : CellsO (give own w.heap.size r) i w' g e xs := ⟨h.1.later hk (fun x => x), (give_old h.1.lt).trans h.2⟩

theorem refPut_all (w : World) (rt rw : Nat) (a : Option Addr) (c : Nat) (l : Things) (x n : Int) (hr : ReadsK 2 w (.slice a l.length c) l.length (flat l)) (hs : sumW l ≤ rw) (hrw : rw ≤ 9223372036854775807) (hb : l.length ≤ 4398046511103)
    (ho : ∀ k, (Value.slice a l.length c).ownBlock = some k → k < w.heap.size) :
    Calls Tryd.prog 9 #[.agg #[.int .i64 rt, .int .i64 rw, .slice a l.length c], .int .i64 x, .int .i64 n] w fun e w' => ∃ g0 g1 g2, e = .returned (.tuple #[.agg #[.int .i64 rt, .int .i64 rw, .slice g0 g1 g2], .int .i64 (putK rt rw l n)]) ∧
      Aside (RefAns w w' (.slice a l.length c) (.slice g0 g1 g2) (putQ rt rw l x n)) := by
  have same : ∀ w', Keeps Nowhere w w' → RefAns w w' (.slice a l.length c) (.slice a l.length c) l := fun w' k => ⟨hr.later k (fun _ _ x => x), fun k e => .inl e, k, fun b e => Nat.lt_of_lt_of_le (ho b e) k.size⟩
  by_cases c1 : n < 0
  · have hk : putK rt rw l n = 2 := by unfold putK; rw [if_pos c1]
    have hq : putQ rt rw l x n = l := by unfold putQ; rw [hk]; rfl
    rw [hk, hq]
    refine (refPut_range w rt rw a l.length c x n c1).mono ?_
    rintro e w' ⟨rfl, k⟩
    exact ⟨_, _, _, rfl, ⟨same w' k.it⟩⟩
  · obtain ⟨m, rfl⟩ : ∃ m : Nat, n = m := ⟨n.toNat, by omega⟩
    by_cases c2 : rt ≤ l.length ∨ (rw : Int) < sumW l + m
    · have hk : putK rt rw l m = 6 := by unfold putK; rw [if_neg c1, if_pos c2]
      have hq : putQ rt rw l x m = l := by unfold putQ; rw [hk]; rfl
      rw [hk, hq]
      refine (refPut_full w rt rw a c l x m hr hs hrw (by omega)).mono ?_
      rintro e w' ⟨rfl, k⟩
      exact ⟨_, _, _, rfl, ⟨same w' k.it⟩⟩
    · have hk : putK rt rw l m = 0 := by unfold putK; rw [if_neg c1, if_neg c2]
      have hq : putQ rt rw l x m = l ++ [(x, m)] := by unfold putQ; rw [hk]; rfl
      rw [hk, hq]
      refine (refPut_ok w rt rw a c l x m hr hs hrw (by omega) (by omega) (by omega)).mono ?_
      rintro e w' ⟨s', rfl, an⟩
      obtain ⟨_, g0, g2, e, _⟩ := an.it.reads
      subst e
      exact ⟨_, _, _, rfl, an⟩
end Go.Proofs.YtnljgklmaljfjaaDoor
