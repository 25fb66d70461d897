/-
  FifoWalk's world
-/
import Derived.Test.YtnljgklmaljfjaaDoorFifoOps
import Derived.Test.YtnljgklmaljfjaaDoorWakes
import Derived.Test.YtnljgklmaljfjaaDoorWalked
import Derived.Test.YtnljgklmaljfjaaDoorSnA
import Derived.Test.YtnljgklmaljfjaaDoorRgFint
import Derived.Test.YtnljgklmaljfjaaDoorGiH
namespace Go.Proofs.YtnljgklmaljfjaaDoor
open Go.RowKit Fint

abbrev Bx := Nat × Nat × TypeId × List Value
variable {A : Nat → Addr} {w0 w w' W : World} {own own' : Nat → Nat} {p : Nat} {q q0 : Things} {s s0 : Value} {C C' : List Bx} {I : Nat → Prop} {bw : Nat} {vw : Value} {Ds : List Nat}

theorem Fint.FifoO.sn {i rt rw : Nat} (h : FifoO own i W p rt rw q) (n : Sn I own W own' w') (hi : ¬ I i) : FifoO own' i w' p rt rw q := by
  obtain ⟨v, f, g, h1, h2, h3, h4⟩ := h
  have ho : ∀ k, Fint.Own p v k → own k = i := by
    rintro k (rfl | e)
    · exact h3
    · exact h4 k e
  exact ⟨v, f, g, h1.later n.keeps (fun k hk e => hi (by rw [← ho k hk]; exact e)), h2, (n.agree p (h1.lt p (.inl rfl))).trans h3, fun k hk => (n.agree k (h1.lt k (.inr hk))).trans (h4 k hk)⟩
theorem Both.sn {i j rt rw : Nat} (h : Both own i j W p rt rw s q) (n : Sn I own W own' w') (hi : ¬ I i) (hj : ¬ I j) : Both own' i j w' p rt rw s q :=
  ⟨h.fifo.sn n hi, h.reads.later n.keeps (fun b hb e => hj (by rw [← (h.refo b hb).1]; exact e)), fun k hk => ⟨(n.agree k (h.refo k hk).2).trans (h.refo k hk).1, Nat.lt_of_lt_of_le (h.refo k hk).2 n.keeps.size⟩⟩

abbrev Mst : Nat := 9223372036854775807
/-- the queue (owner 1), the document's (owner 2), boxes, each by its owner -/
structure F1 (A : Nat → Addr) (w0 : World) (own : Nat → Nat) (W : World) (p : Nat) (q : Things) (s : Value) (C : List Bx) : Prop where
  g : Ground w0.heap.size w0 own W
  st : Sents 129 codeVars A w0
  both : Both own 1 2 W p 1048576 Mst s q
  c : ∀ x ∈ C, CellsO own x.1 W x.2.1 x.2.2.1 x.2.2.2
theorem F1.sn (h : F1 A w0 own W p q s C) (n : Sn I own W own' w') (h0 : ¬ I 0) (h1 : ¬ I 1) (h2 : ¬ I 2) (hc : ∀ x ∈ C, ¬ I x.1) : F1 A w0 own' w' p q s C := ⟨h.g.sn n h0, h.st, h.both.sn n h1 h2, fun x hx => (h.c x hx).sn n (hc x hx)⟩
theorem F1.quiet (h : F1 A w0 own W p q s C) (hk : Keeps Nowhere W w') : F1 A w0 own w' p q s C := h.sn (I := fun _ => False) (Sn.same hk) (fun x => x) (fun x => x) (fun x => x) (fun _ _ x => x)
theorem F1.step (h : F1 A w0 own W p q s C) (hk : Keeps Nowhere W w') (r : Nat) : F1 A w0 (give own W.heap.size r) w' p q s C := h.sn (I := fun _ => False) (Sn.quiet hk r) (fun x => x) (fun x => x) (fun x => x) (fun _ _ x => x)
theorem F1.sub (h : F1 A w0 own W p q s C) (hs : ∀ x ∈ C', x ∈ C) : F1 A w0 own W p q s C' := ⟨h.g, h.st, h.both, fun x hx => h.c x (hs x hx)⟩
theorem F1.len (h : F1 A w0 own W p q s C) : q.length ≤ 1048576 := h.both.fifo.things
theorem F1.slc (h : F1 A w0 own W p q s C) : ∃ a c, s = .slice a q.length c ∧ q.length ≤ c := by
  obtain ⟨_, a, c, e, h1, _⟩ := h.both.reads
  exact ⟨a, c, e, h1⟩
theorem F1.bel (h : F1 A w0 own W p q s C) : Keeps Nowhere w0 W := Keeps.ofBelow h.g.bel
theorem F1.cell (h : F1 A w0 own W p q s C) {i nb : Nat} {t : TypeId} {cs : List Value} (hm : (i, nb, t, cs) ∈ C) (j : Nat) : W.cell? ⟨nb, j, none⟩ = cs[j]? := (h.c _ hm).1.cell j
theorem F1.frz (h : F1 A w0 own W p q s C) {i nb : Nat} {t : TypeId} {cs : List Value} (hm : (i, nb, t, cs) ∈ C) (j : Nat) : W.frozen? ⟨nb, j, none⟩ = false := (h.c _ hm).1.frozen j
theorem Sn.since {i : Nat} (h : Since own i W own' w') : Sn (fun k => k = i) own W own' w' := ⟨h.agree, h.keeps⟩
/-- culvertlaw03.step, from whatever world of F1 -/
theorem f1_step (h : F1 A w0 own W p q s C) (hC : ∀ x ∈ C, x.1 ≠ 1) (o : OpV3) (ws : Value) (hwr : ReadsOff Nowhere w0 ws (iv o.out)) (hwn : o.out.length ≤ maxLen) :
    Calls Tryd.prog 21 #[.pointer (some ⟨p, 0, none⟩), .agg #[.int .i64 (1048576 : Nat), .int .i64 (Mst : Nat), s], .agg #[.int .i64 o.kind, .int .i64 o.v, .int .i64 o.w, ws]] W fun e w' => ∃ n0 l n2 q' own', e = .returned (.tuple #[.agg #[.int .i64 (1048576 : Nat), .int .i64 (Mst : Nat), .slice n0 l n2], .bool true]) ∧
      Aside (F1 A w0 own' w' p q' (.slice n0 l n2) C) ∧ Aside (Sn (fun k => k = 1) own W own' w') := by
  obtain ⟨a, c, rfl, _⟩ := h.slc
  refine (step_ok w0 W h.st h.g h.both (by decide) (by decide) (by decide) (Nat.le_trans h.len (by decide)) o ws (h.g.reads hwr rfl (by decide)) hwn).mono ?_
  rintro e w' ⟨s', own', rfl, bo, si⟩
  have n := Sn.since si.it
  obtain ⟨_, n0, n2, he, _⟩ := id bo.it.reads
  subst he
  exact ⟨n0, _, n2, _, own', rfl, ⟨h.g.sn n (by decide), h.st, bo.it, fun x hx => (h.c x hx).sn n (fun e => hC x hx e)⟩, ⟨n⟩⟩
/-- an op of the script, as it lies in the world of the arguments -/
structure OpC (w0 : World) (sb so : Nat) (o : OpV3) (ws : Value) : Prop where
  c0 : w0.cell? ⟨sb, so, none⟩ = some (.int .i64 o.kind)
  c1 : w0.cell? ⟨sb, so + 1, none⟩ = some (.int .i64 o.v)
  c2 : w0.cell? ⟨sb, so + 2, none⟩ = some (.int .i64 o.w)
  c3 : w0.cell? ⟨sb, so + 3, none⟩ = some ws
  r : ReadsOff Nowhere w0 ws (iv o.out)
  n : o.out.length ≤ maxLen
theorem F1.op {sb so : Nat} {o : OpV3} {ws : Value} (h : F1 A w0 own W p q s C) (c : OpC w0 sb so o ws) : W.cell? ⟨sb, so, none⟩ = some (.int .i64 o.kind) ∧ W.cell? ⟨sb, so + 1, none⟩ = some (.int .i64 o.v) ∧ W.cell? ⟨sb, so + 2, none⟩ = some (.int .i64 o.w) ∧ W.cell? ⟨sb, so + 3, none⟩ = some ws :=
  ⟨h.g.cell rfl c.c0, h.g.cell rfl c.c1, h.g.cell rfl c.c2, h.g.cell rfl c.c3⟩
/-- what a region reads that calls step: the queue's pointer, the document's queue, the op -/
abbrev Rd10 (b7 p wb sb so : Nat) (s ws : Value) (o : OpV3) (W : World) : Prop := W.cell? ⟨b7, 0, none⟩ = some (.pointer (some ⟨p, 0, none⟩)) ∧ W.cell? ⟨wb, 0, none⟩ = some (.int .i64 1048576) ∧ W.cell? ⟨wb, 1, none⟩ = some (.int .i64 9223372036854775807) ∧ W.cell? ⟨wb, 2, none⟩ = some s ∧
  W.cell? ⟨sb, so, none⟩ = some (.int .i64 o.kind) ∧ W.cell? ⟨sb, so + 1, none⟩ = some (.int .i64 o.v) ∧ W.cell? ⟨sb, so + 2, none⟩ = some (.int .i64 o.w) ∧ W.cell? ⟨sb, so + 3, none⟩ = some ws
theorem F1.rd10 {b7 wb sb so : Nat} {o : OpV3} {sv ws : Value} (m7 : Aside ((6, b7, 59, [.pointer (some ⟨p, 0, none⟩)]) ∈ C)) (mb : Aside ((9, wb, 35, [.int .i64 1048576, .int .i64 9223372036854775807, sv]) ∈ C)) (c : Aside (OpC w0 sb so o ws)) (h : Aside (F1 A w0 own W p q s C)) : Rd10 b7 p wb sb so sv ws o W :=
  ⟨h.it.cell m7.it 0, h.it.cell mb.it 0, h.it.cell mb.it 1, h.it.cell mb.it 2, h.it.op c.it⟩
theorem f1_stepA {sb so : Nat} {o : OpV3} {ws : Value} (c : Aside (OpC w0 sb so o ws)) (hC : Aside (∀ x ∈ C, x.1 ≠ 1)) (h : Aside (F1 A w0 own W p q s C)) :
    Calls Tryd.prog 21 #[.pointer (some ⟨p, 0, none⟩), .agg #[.int .i64 1048576, .int .i64 9223372036854775807, s], .agg #[.int .i64 o.kind, .int .i64 o.v, .int .i64 o.w, ws]] W fun e w' => ∃ n0 l n2 q' own', e = .returned (.tuple #[.agg #[.int .i64 1048576, .int .i64 9223372036854775807, .slice n0 l n2], .bool true]) ∧
      Aside (F1 A w0 own' w' p q' (.slice n0 l n2) C) ∧ Aside (Sn (fun k => k = 1) own W own' w') := f1_step h.it hC.it o ws c.it.r c.it.n
/-- a new box -/
theorem F1.box (h : F1 A w0 own W p q s C) (i : Nat) (t : TypeId) (cs : List Value) : F1 A w0 (give own W.heap.size i) (W.alloc (.cells cs.toArray t)) p q s ((i, W.heap.size, t, cs) :: C) := by
  have h' := h.step ((Keeps.refl _ _).alloc (.cells cs.toArray t)) i
  exact ⟨h'.g, h'.st, h'.both, fun x hx => by
    rcases List.mem_cons.1 hx with rfl | hx
    · exact ⟨Cells.new W t cs, give_new (Nat.le_refl _)⟩
    · exact h'.c x hx⟩
/-- a box is written: its owner has no other -/
theorem F1.write {i nb : Nat} {t : TypeId} {cs cs' : List Value} (h : F1 A w0 own W p q s ((i, nb, t, cs) :: C)) (hC : ∀ x ∈ C, x.1 ≠ i) (hi : i ≠ 0 ∧ i ≠ 1 ∧ i ≠ 2) (hk : Keeps (fun k => k = nb) W w') (hc : Cells w' nb t cs') : F1 A w0 own w' p q s ((i, nb, t, cs') :: C) ∧ Sn (fun k => k = i) own W own w' := by
  have hn := h.c _ (List.mem_cons_self ..)
  have n : Sn (fun k => k = i) own W own w' := ⟨fun _ _ => rfl, hk.mono (fun k e _ => by rw [e]; exact hn.2)⟩
  refine ⟨⟨h.g.sn n (fun e => hi.1 e.symm), h.st, h.both.sn n (fun e => hi.2.1 e.symm) (fun e => hi.2.2 e.symm), fun x hx => ?_⟩, n⟩
  rcases List.mem_cons.1 hx with rfl | hx
  · exact ⟨hc, hn.2⟩
  · exact (h.c x (List.mem_cons_of_mem _ hx)).sn n (fun e => hC x hx e)
theorem set3 {nb : Nat} {t : TypeId} {c0 c1 c2 y0 y1 y2 : Value} (h : Cells W nb t [c0, c1, c2]) : Keeps (fun k => k = nb) W (((W.setCell ⟨nb, 0, none⟩ y0).setCell ⟨nb, 1, none⟩ y1).setCell ⟨nb, 2, none⟩ y2) ∧ Cells (((W.setCell ⟨nb, 0, none⟩ y0).setCell ⟨nb, 1, none⟩ y1).setCell ⟨nb, 2, none⟩ y2) nb t [y0, y1, y2] :=
  ⟨(((Keeps.refl (fun k => k = nb) W).setCell ⟨nb, 0, none⟩ y0 (fun _ => rfl)).setCell ⟨nb, 1, none⟩ y1 (fun _ => rfl)).setCell ⟨nb, 2, none⟩ y2 (fun _ => rfl), ((h.setCell 0 y0).setCell 1 y1).setCell 2 y2⟩
theorem F1.rd10A {b7 wb sb so : Nat} {o : OpV3} {sv ws : Value} {ob : Obj} (m7 : Aside ((6, b7, 59, [.pointer (some ⟨p, 0, none⟩)]) ∈ C)) (mb : Aside ((9, wb, 35, [.int .i64 1048576, .int .i64 9223372036854775807, sv]) ∈ C)) (c : Aside (OpC w0 sb so o ws)) (h : Aside (F1 A w0 own W p q s C)) : Rd10 b7 p wb sb so sv ws o (W.alloc ob) :=
  F1.rd10 m7 mb c ⟨h.it.quiet ((Keeps.refl _ _).alloc ob)⟩
theorem F1.rd10B {b7 wb sb so nb : Nat} {o : OpV3} {sv ws c0 c1 c2 : Value} (m7 : Aside ((6, b7, 59, [.pointer (some ⟨p, 0, none⟩)]) ∈ C)) (mb : Aside ((9, wb, 35, [.int .i64 1048576, .int .i64 9223372036854775807, sv]) ∈ C)) (c : Aside (OpC w0 sb so o ws)) (h : Aside (F1 A w0 own W p q s ((20, nb, 35, [c0, c1, c2]) :: C))) : Rd10 b7 p wb sb so sv ws o W :=
  F1.rd10 ⟨List.mem_cons_of_mem _ m7.it⟩ ⟨List.mem_cons_of_mem _ mb.it⟩ c h
theorem F1.rd10S {b7 wb sb so nb : Nat} {o : OpV3} {sv ws c0 c1 c2 y0 y1 y2 : Value} (m7 : Aside ((6, b7, 59, [.pointer (some ⟨p, 0, none⟩)]) ∈ C)) (mb : Aside ((9, wb, 35, [.int .i64 1048576, .int .i64 9223372036854775807, sv]) ∈ C)) (c : Aside (OpC w0 sb so o ws)) (hC : Aside (∀ x ∈ C, x.1 ≠ 20)) (h : Aside (F1 A w0 own W p q s ((20, nb, 35, [c0, c1, c2]) :: C))) : Rd10 b7 p wb sb so sv ws o (((W.setCell ⟨nb, 0, none⟩ y0).setCell ⟨nb, 1, none⟩ y1).setCell ⟨nb, 2, none⟩ y2) := by
  have hs := set3 (y0 := y0) (y1 := y1) (y2 := y2) (h.it.c _ (List.mem_cons_self ..)).1
  exact F1.rd10B m7 mb c ⟨(h.it.write hC.it (by decide) hs.1 hs.2).1⟩
theorem F1.res20 {nb : Nat} {c0 c1 c2 : Value} (h : Aside (F1 A w0 own W p q s ((20, nb, 35, [c0, c1, c2]) :: C))) : W.cell? ⟨nb, 0, none⟩ = some c0 ∧ W.cell? ⟨nb, 1, none⟩ = some c1 ∧ W.cell? ⟨nb, 2, none⟩ = some c2 ∧ W.frozen? ⟨nb, 0, none⟩ = false ∧ W.frozen? ⟨nb, 1, none⟩ = false ∧ W.frozen? ⟨nb, 2, none⟩ = false :=
  ⟨h.it.cell (List.mem_cons_self ..) 0, h.it.cell (List.mem_cons_self ..) 1, h.it.cell (List.mem_cons_self ..) 2, h.it.frz (List.mem_cons_self ..) 0, h.it.frz (List.mem_cons_self ..) 1, h.it.frz (List.mem_cons_self ..) 2⟩
/-- and the walk (owner 5), what stood when it was made, the marks (owner 15) -/
structure Fr (A : Nat → Addr) (w0 : World) (own : Nat → Nat) (W : World) (p : Nat) (q : Things) (s : Value) (C : List Bx) (bw : Nat) (vw : Value) (q0 : Things) (s0 : Value) (Ds : List Nat) : Prop where
  x : F1 A w0 own W p q s C
  wk : WalkV W bw vw q0
  wo : own bw = 5 ∧ ∀ k, vw.ownBlock = some k → own k = 5
  was : ReadsK 2 W s0 q0.length (flat q0)
  wa : ∀ k, s0.ownBlock = some k → own k = 2 ∧ k < W.heap.size
  ds : ∀ D ∈ Ds, W.heap[D]? = some (.deferred (some [])) ∧ own D = 15
theorem Fr.sn (h : Fr A w0 own W p q s C bw vw q0 s0 Ds) (n : Sn I own W own' w') (h0 : ¬ I 0) (h1 : ¬ I 1) (h2 : ¬ I 2) (h5 : ¬ I 5) (h15 : ¬ I 15) (hc : ∀ x ∈ C, ¬ I x.1) : Fr A w0 own' w' p q s C bw vw q0 s0 Ds := by
  have hb := World.block_lt_of_cell? W _ h.wk.c
  refine ⟨h.x.sn n h0 h1 h2 hc, ⟨?_, owns_later h.wk.r n.keeps (fun b hb e => h5 (by rw [← h.wo.2 b hb]; exact e))⟩, ⟨(n.agree bw hb).trans h.wo.1, fun k hk => (n.agree k (owns_lt h.wk.r k hk)).trans (h.wo.2 k hk)⟩, h.was.later n.keeps (fun b hb e => h2 (by rw [← (h.wa b hb).1]; exact e)), fun k hk => ⟨(n.agree k (h.wa k hk).2).trans (h.wa k hk).1, Nat.lt_of_lt_of_le (h.wa k hk).2 n.keeps.size⟩, fun D hD => ?_⟩
  · rw [World.cell?_of_block (w := W) (n.keeps.block bw hb (fun e => h5 (by rw [← h.wo.1]; exact e)))]
    exact h.wk.c
  · obtain ⟨e1, e2⟩ := h.ds D hD
    have hl := (Array.getElem?_eq_some_iff.1 e1).1
    exact ⟨(n.keeps.block D hl (fun e => h15 (by rw [← e2]; exact e))).trans e1, (n.agree D hl).trans e2⟩
theorem Fr.quiet (h : Fr A w0 own W p q s C bw vw q0 s0 Ds) (hk : Keeps Nowhere W w') : Fr A w0 own w' p q s C bw vw q0 s0 Ds := h.sn (I := fun _ => False) (Sn.same hk) (fun x => x) (fun x => x) (fun x => x) (fun x => x) (fun x => x) (fun _ _ x => x)
theorem Fr.step (h : Fr A w0 own W p q s C bw vw q0 s0 Ds) (hk : Keeps Nowhere W w') (r : Nat) : Fr A w0 (give own W.heap.size r) w' p q s C bw vw q0 s0 Ds := h.sn (I := fun _ => False) (Sn.quiet hk r) (fun x => x) (fun x => x) (fun x => x) (fun x => x) (fun x => x) (fun _ _ x => x)
/-- another F1 behind a step by owners whom the walk does not mind -/
theorem Fr.with {q' : Things} {s' : Value} (h : Fr A w0 own W p q s C bw vw q0 s0 Ds) (hx : F1 A w0 own' w' p q' s' C') (n : Sn I own W own' w') (h2 : ¬ I 2) (h5 : ¬ I 5) (h15 : ¬ I 15) : Fr A w0 own' w' p q' s' C' bw vw q0 s0 Ds := by
  have hb := World.block_lt_of_cell? W _ h.wk.c
  refine ⟨hx, ⟨?_, owns_later h.wk.r n.keeps (fun b hb e => h5 (by rw [← h.wo.2 b hb]; exact e))⟩, ⟨(n.agree bw hb).trans h.wo.1, fun k hk => (n.agree k (owns_lt h.wk.r k hk)).trans (h.wo.2 k hk)⟩, h.was.later n.keeps (fun b hb e => h2 (by rw [← (h.wa b hb).1]; exact e)), fun k hk => ⟨(n.agree k (h.wa k hk).2).trans (h.wa k hk).1, Nat.lt_of_lt_of_le (h.wa k hk).2 n.keeps.size⟩, fun D hD => ?_⟩
  · rw [World.cell?_of_block (w := W) (n.keeps.block bw hb (fun e => h5 (by rw [← h.wo.1]; exact e)))]
    exact h.wk.c
  · obtain ⟨e1, e2⟩ := h.ds D hD
    have hl := (Array.getElem?_eq_some_iff.1 e1).1
    exact ⟨(n.keeps.block D hl (fun e => h15 (by rw [← e2]; exact e))).trans e1, (n.agree D hl).trans e2⟩
theorem Fr.box (h : Fr A w0 own W p q s C bw vw q0 s0 Ds) (i : Nat) (t : TypeId) (cs : List Value) : Fr A w0 (give own W.heap.size i) (W.alloc (.cells cs.toArray t)) p q s ((i, W.heap.size, t, cs) :: C) bw vw q0 s0 Ds :=
  h.with (h.x.box i t cs) (I := fun _ => False) (Sn.quiet ((Keeps.refl _ _).alloc _) i) (fun x => x) (fun x => x) (fun x => x)
theorem Fr.write {i nb : Nat} {t : TypeId} {cs cs' : List Value} (h : Fr A w0 own W p q s ((i, nb, t, cs) :: C) bw vw q0 s0 Ds) (hC : ∀ x ∈ C, x.1 ≠ i) (hi : i ≠ 0 ∧ i ≠ 1 ∧ i ≠ 2 ∧ i ≠ 5 ∧ i ≠ 15) (hk : Keeps (fun k => k = nb) W w') (hc : Cells w' nb t cs') : Fr A w0 own w' p q s ((i, nb, t, cs') :: C) bw vw q0 s0 Ds ∧ Sn (fun k => k = i) own W own w' := by
  obtain ⟨h1, n⟩ := h.x.write hC ⟨hi.1, hi.2.1, hi.2.2.1⟩ hk hc
  exact ⟨h.with h1 n (fun e => hi.2.2.1 e.symm) (fun e => hi.2.2.2.1 e.symm) (fun e => hi.2.2.2.2 e.symm), n⟩
theorem Fr.sub (h : Fr A w0 own W p q s C bw vw q0 s0 Ds) (hs : ∀ x ∈ C', x ∈ C) : Fr A w0 own W p q s C' bw vw q0 s0 Ds := ⟨h.x.sub hs, h.wk, h.wo, h.was, h.wa, h.ds⟩
theorem putObj_keeps (W : World) (l : Nat) (o : Obj) : Keeps (fun k => k = l) W (W.putObj l o) :=
  ⟨rfl, rfl, rfl, by simp [World.putObj], fun _ _ hn => World.putObj_heap_other hn⟩
theorem Fr.put {l i : Nat} {o : Obj} (h : Fr A w0 own W p q s C bw vw q0 s0 Ds) (ho : own l = i) (hi : i ≠ 0 ∧ i ≠ 1 ∧ i ≠ 2 ∧ i ≠ 5 ∧ i ≠ 15) (hC : ∀ x ∈ C, x.1 ≠ i) : Fr A w0 own (W.putObj l o) p q s C bw vw q0 s0 Ds := by
  have n : Sn (fun k => k = i) own W own (W.putObj l o) := ⟨fun _ _ => rfl, (putObj_keeps W l o).mono (fun k e _ => by rw [e]; exact ho)⟩
  exact h.sn n (fun e => hi.1 e.symm) (fun e => hi.2.1 e.symm) (fun e => hi.2.2.1 e.symm) (fun e => hi.2.2.2.1 e.symm) (fun e => hi.2.2.2.2 e.symm) (fun x hx e => hC x hx e)
/-- a loop of its own is entered: the block for deferred calls (owner 15), the record (owner 14) -/
theorem Fr.enter (h : Fr A w0 own W p q s C bw vw q0 s0 Ds) (r : Loop) : ∃ own', Fr A w0 own' ((W.alloc (.deferred (some []))).alloc (.loop r)) p q s C bw vw q0 s0 (W.heap.size :: Ds) ∧ own' (W.heap.size + 1) = 14 := by
  have ho : (fun k => if k < W.heap.size then own k else if k = W.heap.size then 15 else 14) (W.heap.size + 1) = 14 := by
    show (if W.heap.size + 1 < W.heap.size then own (W.heap.size + 1) else if W.heap.size + 1 = W.heap.size then 15 else 14) = 14
    rw [if_neg (by omega), if_neg (by omega)]
  refine ⟨fun k => if k < W.heap.size then own k else if k = W.heap.size then 15 else 14, ?_, ho⟩
  have K : Keeps Nowhere W ((W.alloc (.deferred (some []))).alloc (.loop r)) := ((Keeps.refl _ _).alloc _).alloc _
  have n : Sn (fun _ => False) own W (fun k => if k < W.heap.size then own k else if k = W.heap.size then 15 else 14) ((W.alloc (.deferred (some []))).alloc (.loop r)) := ⟨fun k hk => if_pos hk, K.any⟩
  have h' := h.sn n (fun x => x) (fun x => x) (fun x => x) (fun x => x) (fun x => x) (fun _ _ x => x)
  refine ⟨h'.x, h'.wk, h'.wo, h'.was, h'.wa, fun D hD => ?_⟩
  rcases List.mem_cons.1 hD with rfl | hD
  · refine ⟨?_, by simp⟩
    rw [Below.heap_alloc _ _ _ (by simp)]
    exact World.alloc_heap_new W _
  · exact h'.ds D hD
/-- a loop within a round is entered: its record (owner 16) -/
theorem Fr.enter2 (h : Fr A w0 own W p q s C bw vw q0 s0 Ds) (r : Loop) : Fr A w0 (give own W.heap.size 16) (W.alloc (.loop r)) p q s C bw vw q0 s0 Ds := h.step ((Keeps.refl _ _).alloc _) 16
theorem was_at (h : Fr A w0 own W p q s C bw vw q0 s0 Ds) {j : Nat} {x : Int × Nat} (hx : q0[j]? = some x) : ∃ a c g o, s0 = .slice a q0.length c ∧ a = some ⟨g, o, none⟩ ∧ W.cell? ⟨g, o + j * 2, none⟩ = some (.int .i64 x.1) ∧ W.cell? ⟨g, o + j * 2 + 1, none⟩ = some (.int .i64 x.2) := by
  obtain ⟨_, a, c, he, h1, h2, _, hc⟩ := h.was
  obtain ⟨g, o, ha, h3⟩ := hc (j * 2 + 0) (.int .i64 x.1) (by rw [flat_at q0 j x hx 0 (by decide)]; rfl)
  obtain ⟨g', o', ha', h4⟩ := hc (j * 2 + 1) (.int .i64 x.2) (by rw [flat_at q0 j x hx 1 (by decide)]; rfl)
  rw [ha] at ha'
  injection ha' with ha'
  injection ha' with e1 e2
  subst e1 e2
  exact ⟨a, c, g, o, he, ha, h3, h4⟩
theorem fr_stepA {sb so : Nat} {o : OpV3} {ws : Value} (c : Aside (OpC w0 sb so o ws)) (hC : Aside (∀ x ∈ C, x.1 ≠ 1)) (h : Aside (Fr A w0 own W p q s C bw vw q0 s0 Ds)) :
    Calls Tryd.prog 21 #[.pointer (some ⟨p, 0, none⟩), .agg #[.int .i64 1048576, .int .i64 9223372036854775807, s], .agg #[.int .i64 o.kind, .int .i64 o.v, .int .i64 o.w, ws]] W fun e w' => ∃ n0 l n2 q' own', e = .returned (.tuple #[.agg #[.int .i64 1048576, .int .i64 9223372036854775807, .slice n0 l n2], .bool true]) ∧
      Aside (Fr A w0 own' w' p q' (.slice n0 l n2) C bw vw q0 s0 Ds) ∧ Aside (Sn (fun k => k = 1) own W own' w') := by
  refine (f1_stepA c hC ⟨h.it.x⟩).mono ?_
  rintro e w' ⟨n0, l, n2, q', own', rfl, X, N⟩
  exact ⟨n0, l, n2, q', own', rfl, ⟨h.it.with X.it N.it (by decide) (by decide) (by decide)⟩, N⟩
theorem sn_record {l i j : Nat} {ob : Obj} (n : Sn (fun k => k = i) own W own' w') (hl : own l = j) (hij : j ≠ i) (hr : W.heap[l]? = some ob) : own' l = j ∧ w'.heap[l]? = some ob := by
  have hlt := (Array.getElem?_eq_some_iff.1 hr).1
  exact ⟨(n.agree l hlt).trans hl, (n.keeps.block l hlt (fun e => hij (hl.symm.trans e))).trans hr⟩
section
variable {KK : List Bx} {nb ib rb wb l : Nat} {T Ti : TypeId} {c0 c1 c2 u r : Value} {cs : List Value} {ob : Obj}
theorem fin39 (h : Fr A w0 own W p q s ((12, ib, Ti, [u]) :: (11, rb, Ti, [r]) :: (9, wb, T, [c0, c1, c2]) :: KK) bw vw q0 s0 Ds) (K1 : ∀ x ∈ KK, x.1 = 6) (hl : own l = 14) (hr : W.heap[l]? = some ob) (v : Value) :
    Fr A w0 own (W.setCell ⟨ib, 0, none⟩ v) p q s ((12, ib, Ti, [v]) :: (11, rb, Ti, [r]) :: (9, wb, T, [c0, c1, c2]) :: KK) bw vw q0 s0 Ds ∧ (W.setCell ⟨ib, 0, none⟩ v).heap[l]? = some ob := by
  have hc := h.x.c _ (List.mem_cons_self ..)
  obtain ⟨h1, n1⟩ := h.write (cs' := [v]) (fun x hx => by
    simp only [List.mem_cons] at hx
    rcases hx with rfl | rfl | hx
    · exact (by decide : (11 : Nat) ≠ 12)
    · exact (by decide : (9 : Nat) ≠ 12)
    · rw [K1 x hx]; decide) (by decide) ((Keeps.refl (fun k => k = ib) W).setCell ⟨ib, 0, none⟩ v (fun _ => rfl)) (hc.1.setCell 0 v)
  exact ⟨h1, (sn_record n1 hl (by decide) hr).2⟩
theorem fin38 {y0 y1 y2 : Value} (h : Fr A w0 own W p q s ((20, nb, T, cs) :: (12, ib, Ti, [u]) :: (11, rb, Ti, [r]) :: (9, wb, T, [c0, c1, c2]) :: KK) bw vw q0 s0 Ds) (K1 : ∀ x ∈ KK, x.1 = 6) (hl : own l = 14) (hr : W.heap[l]? = some ob) :
    Fr A w0 own (((W.setCell ⟨wb, 0, none⟩ y0).setCell ⟨wb, 1, none⟩ y1).setCell ⟨wb, 2, none⟩ y2) p q s ((12, ib, Ti, [u]) :: (11, rb, Ti, [r]) :: (9, wb, T, [y0, y1, y2]) :: KK) bw vw q0 s0 Ds ∧ (((W.setCell ⟨wb, 0, none⟩ y0).setCell ⟨wb, 1, none⟩ y1).setCell ⟨wb, 2, none⟩ y2).heap[l]? = some ob := by
  have h9 : Fr A w0 own W p q s ((9, wb, T, [c0, c1, c2]) :: (12, ib, Ti, [u]) :: (11, rb, Ti, [r]) :: KK) bw vw q0 s0 Ds := h.sub (fun x hx => by
    simp only [List.mem_cons] at hx ⊢
    rcases hx with h | h | h | h
    · exact .inr (.inr (.inr (.inl h)))
    · exact .inr (.inl h)
    · exact .inr (.inr (.inl h))
    · exact .inr (.inr (.inr (.inr h))))
  have hs := set3 (y0 := y0) (y1 := y1) (y2 := y2) (h9.x.c _ (List.mem_cons_self ..)).1
  obtain ⟨h1, n1⟩ := h9.write (fun x hx => by
    simp only [List.mem_cons] at hx
    rcases hx with rfl | rfl | hx
    · exact (by decide : (12 : Nat) ≠ 9)
    · exact (by decide : (11 : Nat) ≠ 9)
    · rw [K1 x hx]; decide) (by decide) hs.1 hs.2
  refine ⟨h1.sub (fun x hx => ?_), (sn_record n1 hl (by decide) hr).2⟩
  simp only [List.mem_cons] at hx ⊢
  rcases hx with h | h | h | h
  · exact .inr (.inl h)
  · exact .inr (.inr (.inl h))
  · exact .inl h
  · exact .inr (.inr (.inr h))
end
/-- what region 35 reads -/
abbrev Rd35 (b7 p wb sb so ab ib M k : Nat) (c2 so0 : Nat) (s ws : Value) (o : OpV3) (W : World) : Prop := Rd10 b7 p wb sb so s ws o W ∧ W.cell? ⟨ab, 0, none⟩ = some (.slice (some ⟨sb, so0, none⟩) M c2) ∧ W.cell? ⟨ib, 0, none⟩ = some (.int .i64 k)
theorem Fr.rd35 {b7 wb sb so ab ib M k c2 so0 : Nat} {o : OpV3} {sv ws : Value} (m7 : Aside ((6, b7, 59, [.pointer (some ⟨p, 0, none⟩)]) ∈ C)) (mb : Aside ((9, wb, 35, [.int .i64 1048576, .int .i64 9223372036854775807, sv]) ∈ C)) (ma : Aside ((6, ab, 24, [.slice (some ⟨sb, so0, none⟩) M c2]) ∈ C)) (mi : Aside ((12, ib, 3, [.int .i64 k]) ∈ C)) (c : Aside (OpC w0 sb so o ws)) (h : Aside (Fr A w0 own W p q s C bw vw q0 s0 Ds)) : Rd35 b7 p wb sb so ab ib M k c2 so0 sv ws o W :=
  ⟨F1.rd10 m7 mb c ⟨h.it.x⟩, h.it.x.cell ma.it 0, h.it.x.cell mi.it 0⟩
/-- the end: the answer is stored, the three marks are taken -/
theorem Fr.fin {t d0 d1 d2 : Nat} (h : Fr A w0 own W p q s C bw vw q0 s0 [d2, d1, d0]) (m : (6, t, 4, [.bool false]) ∈ C) (h21 : d1 < d2) (h20 : d0 < d2) (h10 : d0 < d1) :
    (W.setCell ⟨t, 0, none⟩ (.bool true)).heap[d2]? = some (.deferred (some [])) ∧ ((W.setCell ⟨t, 0, none⟩ (.bool true)).putObj d2 (.deferred none)).heap[d1]? = some (.deferred (some [])) ∧ (((W.setCell ⟨t, 0, none⟩ (.bool true)).putObj d2 (.deferred none)).putObj d1 (.deferred none)).heap[d0]? = some (.deferred (some [])) ∧
    ((((W.setCell ⟨t, 0, none⟩ (.bool true)).putObj d2 (.deferred none)).putObj d1 (.deferred none)).putObj d0 (.deferred none)).cell? ⟨t, 0, none⟩ = some (.bool true) ∧ Below w0.heap.size w0 ((((W.setCell ⟨t, 0, none⟩ (.bool true)).putObj d2 (.deferred none)).putObj d1 (.deferred none)).putObj d0 (.deferred none)) := by
  obtain ⟨e2, o2⟩ := h.ds d2 (by simp)
  obtain ⟨e1, o1⟩ := h.ds d1 (by simp)
  obtain ⟨e0, o0⟩ := h.ds d0 (by simp)
  have ht := h.x.c _ m
  have t2 : d2 ≠ t := fun e => by have h6 : own t = 6 := ht.2; rw [← e, o2] at h6; exact absurd h6 (by decide)
  have t1 : d1 ≠ t := fun e => by have h6 : own t = 6 := ht.2; rw [← e, o1] at h6; exact absurd h6 (by decide)
  have t0 : d0 ≠ t := fun e => by have h6 : own t = 6 := ht.2; rw [← e, o0] at h6; exact absurd h6 (by decide)
  have ks : Keeps (fun k => k = t) W (W.setCell ⟨t, 0, none⟩ (.bool true)) := (Keeps.refl _ W).setCell ⟨t, 0, none⟩ (.bool true) (fun _ => rfl)
  have k2 := putObj_keeps (W.setCell ⟨t, 0, none⟩ (.bool true)) d2 (.deferred none)
  have k1 := putObj_keeps ((W.setCell ⟨t, 0, none⟩ (.bool true)).putObj d2 (.deferred none)) d1 (.deferred none)
  have k0 := putObj_keeps (((W.setCell ⟨t, 0, none⟩ (.bool true)).putObj d2 (.deferred none)).putObj d1 (.deferred none)) d0 (.deferred none)
  have g : ∀ {d : Nat}, d ≠ t → W.heap[d]? = some (.deferred (some [])) → (W.setCell ⟨t, 0, none⟩ (.bool true)).heap[d]? = some (.deferred (some [])) := fun hd he => (ks.block _ (Array.getElem?_eq_some_iff.1 he).1 hd).trans he
  refine ⟨g t2 e2, (World.putObj_heap_other (by omega)).trans (g t1 e1), ((World.putObj_heap_other (by omega)).trans (World.putObj_heap_other (by omega))).trans (g t0 e0), ?_, ?_⟩
  · have c := (((ht.1.setCell 0 (.bool true)).later k2 (fun e => t2 e.symm)).later k1 (fun e => t1 e.symm)).later k0 (fun e => t0 e.symm)
    rw [c.cell]; rfl
  · have K : Keeps (fun k => own k = 6 ∨ own k = 15) W ((((W.setCell ⟨t, 0, none⟩ (.bool true)).putObj d2 (.deferred none)).putObj d1 (.deferred none)).putObj d0 (.deferred none)) :=
      (((ks.mono (fun k e _ => .inl (by rw [e]; exact ht.2))).trans (k2.mono (fun k e _ => .inr (by rw [e]; exact o2)))).trans (k1.mono (fun k e _ => .inr (by rw [e]; exact o1)))).trans (k0.mono (fun k e _ => .inr (by rw [e]; exact o0)))
    exact (h.x.g.sn (I := fun k => k = 6 ∨ k = 15) ⟨fun _ _ => rfl, K⟩ (by decide)).bel
end Go.Proofs.YtnljgklmaljfjaaDoor
