/-
  TableWalk's world
-/
import Derived.Test.YtcdgmbaimbmdmaaDoorLwV
import Derived.Test.YtcdgmbaimbmdmaaDoorLwS
import Derived.Test.YtcdgmbaimbmdmaaDoorLwW
import Derived.Test.YtcdgmbaimbmdmaaDoorRgTint
import Derived.Test.YtcdgmbaimbmdmaaDoorGiH
namespace Go.Proofs.YtcdgmbaimbmdmaaDoor
open Go.RowKit Tbint

abbrev Bx := Nat × Nat × TypeId × List Value
variable {A : Nat → Addr} {w0 w w' W : World} {own own' : Nat → Nat} {p : Nat} {q q0 : Tl Int} {s s0 : Value} {C C' : List Bx} {I : Nat → Prop} {bi bs : Nat} {vi vs : Value} {Ds : List Nat}

/-- the table (owner 1), the document's (owner 9), boxes, each by its owner -/
structure F1 (A : Nat → Addr) (w0 : World) (own : Nat → Nat) (W : World) (p : Nat) (q : Tl Int) (s : Value) (C : List Bx) : Prop where
  g : OnG A w0 own W
  both : Tp own 1 W p 1048576 q s
  c : ∀ x ∈ C, CellsO own x.1 W x.2.1 x.2.2.1 x.2.2.2
theorem F1.sn (h : F1 A w0 own W p q s C) (n : Sn I own W own' w') (h0 : ¬ I 0) (h1 : ¬ I 1) (h9 : ¬ I 9) (hc : ∀ x ∈ C, ¬ I x.1) : F1 A w0 own' w' p q s C := ⟨h.g.sn n h0, h.both.sn n h1 h9, fun x hx => (h.c x hx).sn n (hc x hx)⟩
theorem F1.quiet (h : F1 A w0 own W p q s C) (hk : Keeps Nowhere W w') : F1 A w0 own w' p q s C := h.sn (I := fun _ => False) (Sn.same hk) (fun x => x) (fun x => x) (fun x => x) (fun _ _ x => x)
theorem F1.step (h : F1 A w0 own W p q s C) (hk : Keeps Nowhere W w') (r : Nat) : F1 A w0 (give own W.heap.size r) w' p q s C := h.sn (I := fun _ => False) (Sn.quiet hk r) (fun x => x) (fun x => x) (fun x => x) (fun _ _ x => x)
theorem F1.sub (h : F1 A w0 own W p q s C) (hs : ∀ x ∈ C', x ∈ C) : F1 A w0 own W p q s C' := ⟨h.g, h.both, fun x hx => h.c x (hs x hx)⟩
theorem F1.len (h : F1 A w0 own W p q s C) : q.length ≤ 4294967296 := up_len h.both.t.up
theorem F1.slc (h : F1 A w0 own W p q s C) : ∃ a c, s = .slice a q.length c ∧ q.length ≤ c := h.both.d.shape
theorem F1.bel (h : F1 A w0 own W p q s C) : Keeps Nowhere w0 W := Keeps.ofBelow h.g.g.bel
theorem F1.cell (h : F1 A w0 own W p q s C) {i nb : Nat} {t : TypeId} {cs : List Value} (hm : (i, nb, t, cs) ∈ C) (j : Nat) : W.cell? ⟨nb, j, none⟩ = cs[j]? := (h.c _ hm).1.cell j
theorem F1.frz (h : F1 A w0 own W p q s C) {i nb : Nat} {t : TypeId} {cs : List Value} (hm : (i, nb, t, cs) ∈ C) (j : Nat) : W.frozen? ⟨nb, j, none⟩ = false := (h.c _ hm).1.frozen j
/-- an op of the script, as it lies in the world of the arguments -/
structure OpC (w0 : World) (sb so : Nat) (o : OpV15) : Prop where
  b : sb < w0.heap.size
  c0 : w0.cell? ⟨sb, so, none⟩ = some (.int .i64 o.kind)
  c1 : w0.cell? ⟨sb, so + 1, none⟩ = some (.int .u32 (o.id : Nat))
  c2 : w0.cell? ⟨sb, so + 2, none⟩ = some (.int .i64 o.v)
  n : o.id ≤ 4294967295
theorem F1.op {sb so : Nat} {o : OpV15} (h : F1 A w0 own W p q s C) (c : OpC w0 sb so o) : W.cell? ⟨sb, so, none⟩ = some (.int .i64 o.kind) ∧ W.cell? ⟨sb, so + 1, none⟩ = some (.int .u32 (o.id : Nat)) ∧ W.cell? ⟨sb, so + 2, none⟩ = some (.int .i64 o.v) := by
  have hb := h.bel.block sb c.b (fun x => x)
  exact ⟨by rw [World.cell?_of_block (w := w0) hb]; exact c.c0, by rw [World.cell?_of_block (w := w0) hb]; exact c.c1, by rw [World.cell?_of_block (w := w0) hb]; exact c.c2⟩
/-- what a region reads that calls step: the table's pointer, the document's table, the op -/
abbrev Rd10 (b7 p wb sb so : Nat) (s : Value) (o : OpV15) (W : World) : Prop := W.cell? ⟨b7, 0, none⟩ = some (.pointer (some ⟨p, 0, none⟩)) ∧ W.cell? ⟨wb, 0, none⟩ = some (.int .i64 1048576) ∧ W.cell? ⟨wb, 1, none⟩ = some s ∧
  W.cell? ⟨sb, so, none⟩ = some (.int .i64 o.kind) ∧ W.cell? ⟨sb, so + 1, none⟩ = some (.int .u32 (o.id : Nat)) ∧ W.cell? ⟨sb, so + 2, none⟩ = some (.int .i64 o.v)
theorem F1.rd10 {b7 wb sb so : Nat} {o : OpV15} {sv : Value} (m7 : Aside ((6, b7, 24, [.pointer (some ⟨p, 0, none⟩)]) ∈ C)) (mb : Aside ((7, wb, 31, [.int .i64 1048576, sv]) ∈ C)) (c : Aside (OpC w0 sb so o)) (h : Aside (F1 A w0 own W p q s C)) : Rd10 b7 p wb sb so sv o W :=
  ⟨h.it.cell m7.it 0, h.it.cell mb.it 0, h.it.cell mb.it 1, h.it.op c.it⟩
theorem f1_stepA {sb so : Nat} {o : OpV15} (c : Aside (OpC w0 sb so o)) (hC : Aside (∀ x ∈ C, x.1 ≠ 1)) (h : Aside (F1 A w0 own W p q s C)) :
    Calls Tryd.prog 7 #[.pointer (some ⟨p, 0, none⟩), .agg #[.int .i64 1048576, s], .agg #[.int .i64 o.kind, .int .u32 (o.id : Nat), .int .i64 o.v]] W fun e w' => ∃ n0 l n2 q' own', e = .returned (.tuple #[.agg #[.int .i64 1048576, .slice n0 l n2], .bool true]) ∧
      Aside (F1 A w0 own' w' p q' (.slice n0 l n2) C) ∧ Aside (Sn (fun k => k = 1) own W own' w') := by
  refine (step15 own W h.it.g h.it.both o.kind o.id o.v c.it.n (by decide)).mono ?_
  rintro e w' ⟨v6, L6, own6, rfl, X6⟩
  obtain ⟨qa, qc, hq, _⟩ := X6.it.1.d.shape
  subst hq
  exact ⟨qa, _, qc, L6, own6, rfl, ⟨h.it.g.sn X6.it.2 (by decide), X6.it.1, fun x hx => (h.it.c x hx).sn X6.it.2 (fun e => hC.it x hx e)⟩, ⟨X6.it.2⟩⟩
/-- a new box -/
theorem F1.box (h : F1 A w0 own W p q s C) (i : Nat) (t : TypeId) (cs : List Value) : F1 A w0 (give own W.heap.size i) (W.alloc (.cells cs.toArray t)) p q s ((i, W.heap.size, t, cs) :: C) := by
  have h' := h.step ((Keeps.refl _ _).alloc (.cells cs.toArray t)) i
  exact ⟨h'.g, h'.both, fun x hx => by
    rcases List.mem_cons.1 hx with rfl | hx
    · exact ⟨Cells.new W t cs, give_new (Nat.le_refl _)⟩
    · exact h'.c x hx⟩
/-- a box is written: its owner has no other -/
theorem F1.write {i nb : Nat} {t : TypeId} {cs cs' : List Value} (h : F1 A w0 own W p q s ((i, nb, t, cs) :: C)) (hC : ∀ x ∈ C, x.1 ≠ i) (hi : i ≠ 0 ∧ i ≠ 1 ∧ i ≠ 9) (hk : Keeps (fun k => k = nb) W w') (hc : Cells w' nb t cs') : F1 A w0 own w' p q s ((i, nb, t, cs') :: C) ∧ Sn (fun k => k = i) own W own w' := by
  have hn := h.c _ (List.mem_cons_self ..)
  have n : Sn (fun k => k = i) own W own w' := ⟨fun _ _ => rfl, hk.mono (fun k e _ => by rw [e]; exact hn.2)⟩
  refine ⟨⟨h.g.sn n (fun e => hi.1 e.symm), h.both.sn n (fun e => hi.2.1 e.symm) (fun e => hi.2.2 e.symm), fun x hx => ?_⟩, n⟩
  rcases List.mem_cons.1 hx with rfl | hx
  · exact ⟨hc, hn.2⟩
  · exact (h.c x (List.mem_cons_of_mem _ hx)).sn n (fun e => hC x hx e)
theorem set2b {nb : Nat} {t : TypeId} {c0 c1 y0 y1 : Value} (h : Cells W nb t [c0, c1]) : Keeps (fun k => k = nb) W ((W.setCell ⟨nb, 0, none⟩ y0).setCell ⟨nb, 1, none⟩ y1) ∧ Cells ((W.setCell ⟨nb, 0, none⟩ y0).setCell ⟨nb, 1, none⟩ y1) nb t [y0, y1] :=
  ⟨((Keeps.refl (fun k => k = nb) W).setCell ⟨nb, 0, none⟩ y0 (fun _ => rfl)).setCell ⟨nb, 1, none⟩ y1 (fun _ => rfl), (h.setCell 0 y0).setCell 1 y1⟩
theorem F1.rd10A {b7 wb sb so : Nat} {o : OpV15} {sv : Value} {ob : Obj} (m7 : Aside ((6, b7, 24, [.pointer (some ⟨p, 0, none⟩)]) ∈ C)) (mb : Aside ((7, wb, 31, [.int .i64 1048576, sv]) ∈ C)) (c : Aside (OpC w0 sb so o)) (h : Aside (F1 A w0 own W p q s C)) : Rd10 b7 p wb sb so sv o (W.alloc ob) :=
  F1.rd10 m7 mb c ⟨h.it.quiet ((Keeps.refl _ _).alloc ob)⟩
theorem F1.rd10B {b7 wb sb so nb : Nat} {o : OpV15} {sv c0 c1 : Value} (m7 : Aside ((6, b7, 24, [.pointer (some ⟨p, 0, none⟩)]) ∈ C)) (mb : Aside ((7, wb, 31, [.int .i64 1048576, sv]) ∈ C)) (c : Aside (OpC w0 sb so o)) (h : Aside (F1 A w0 own W p q s ((20, nb, 31, [c0, c1]) :: C))) : Rd10 b7 p wb sb so sv o W :=
  F1.rd10 ⟨List.mem_cons_of_mem _ m7.it⟩ ⟨List.mem_cons_of_mem _ mb.it⟩ c h
theorem F1.rd10S {b7 wb sb so nb : Nat} {o : OpV15} {sv c0 c1 y0 y1 : Value} (m7 : Aside ((6, b7, 24, [.pointer (some ⟨p, 0, none⟩)]) ∈ C)) (mb : Aside ((7, wb, 31, [.int .i64 1048576, sv]) ∈ C)) (c : Aside (OpC w0 sb so o)) (hC : Aside (∀ x ∈ C, x.1 ≠ 20)) (h : Aside (F1 A w0 own W p q s ((20, nb, 31, [c0, c1]) :: C))) : Rd10 b7 p wb sb so sv o ((W.setCell ⟨nb, 0, none⟩ y0).setCell ⟨nb, 1, none⟩ y1) := by
  have hs := set2b (y0 := y0) (y1 := y1) (h.it.c _ (List.mem_cons_self ..)).1
  exact F1.rd10B m7 mb c ⟨(h.it.write hC.it (by decide) hs.1 hs.2).1⟩
theorem F1.res20 {nb : Nat} {c0 c1 : Value} (h : Aside (F1 A w0 own W p q s ((20, nb, 31, [c0, c1]) :: C))) : W.cell? ⟨nb, 0, none⟩ = some c0 ∧ W.cell? ⟨nb, 1, none⟩ = some c1 ∧ W.frozen? ⟨nb, 0, none⟩ = false ∧ W.frozen? ⟨nb, 1, none⟩ = false :=
  ⟨h.it.cell (List.mem_cons_self ..) 0, h.it.cell (List.mem_cons_self ..) 1, h.it.frz (List.mem_cons_self ..) 0, h.it.frz (List.mem_cons_self ..) 1⟩
/-- and the walk (owner 5), what stood when it was made, the marks (owner 15) -/
structure Fr (A : Nat → Addr) (w0 : World) (own : Nat → Nat) (W : World) (p : Nat) (q : Tl Int) (s : Value) (C : List Bx) (bi bs : Nat) (vi vs : Value) (q0 : Tl Int) (s0 : Value) (Ds : List Nat) : Prop where
  x : F1 A w0 own W p q s C
  wk : WalkV W bi bs vi vs q0
  wo : own bi = 5 ∧ own bs = 5 ∧ (∀ k, vi.ownBlock = some k → own k = 5) ∧ ∀ k, vs.ownBlock = some k → own k = 5
  was : RdD own W s0 q0
  ds : ∀ D ∈ Ds, W.heap[D]? = some (.deferred (some [])) ∧ own D = 15
/-- another F1 behind a step by owners whom the walk does not mind -/
theorem Fr.with {q' : Tl Int} {s' : Value} (h : Fr A w0 own W p q s C bi bs vi vs q0 s0 Ds) (hx : F1 A w0 own' w' p q' s' C') (n : Sn I own W own' w') (h9 : ¬ I 9) (h5 : ¬ I 5) (h15 : ¬ I 15) : Fr A w0 own' w' p q' s' C' bi bs vi vs q0 s0 Ds := by
  have hb := World.block_lt_of_cell? W _ h.wk.c
  have hb2 := World.block_lt_of_cell? W _ h.wk.d
  refine ⟨hx, ⟨?_, ?_, owns_later h.wk.r n.keeps (fun b hb e => h5 (by rw [← h.wo.2.2.1 b hb]; exact e)), owns_later h.wk.s n.keeps (fun b hb e => h5 (by rw [← h.wo.2.2.2 b hb]; exact e))⟩,
    ⟨(n.agree bi hb).trans h.wo.1, (n.agree bs hb2).trans h.wo.2.1, fun k hk => (n.agree k (owns_lt h.wk.r k hk)).trans (h.wo.2.2.1 k hk), fun k hk => (n.agree k (owns_lt h.wk.s k hk)).trans (h.wo.2.2.2 k hk)⟩, h.was.sn n h9, fun D hD => ?_⟩
  · rw [World.cell?_of_block (w := W) (n.keeps.block bi hb (fun e => h5 (by rw [← h.wo.1]; exact e)))]
    exact h.wk.c
  · rw [World.cell?_of_block (w := W) (n.keeps.block bs hb2 (fun e => h5 (by rw [← h.wo.2.1]; exact e)))]
    exact h.wk.d
  · obtain ⟨e1, e2⟩ := h.ds D hD
    have hl := (Array.getElem?_eq_some_iff.1 e1).1
    exact ⟨(n.keeps.block D hl (fun e => h15 (by rw [← e2]; exact e))).trans e1, (n.agree D hl).trans e2⟩
theorem Fr.sn (h : Fr A w0 own W p q s C bi bs vi vs q0 s0 Ds) (n : Sn I own W own' w') (h0 : ¬ I 0) (h1 : ¬ I 1) (h9 : ¬ I 9) (h5 : ¬ I 5) (h15 : ¬ I 15) (hc : ∀ x ∈ C, ¬ I x.1) : Fr A w0 own' w' p q s C bi bs vi vs q0 s0 Ds := h.with (h.x.sn n h0 h1 h9 hc) n h9 h5 h15
theorem Fr.quiet (h : Fr A w0 own W p q s C bi bs vi vs q0 s0 Ds) (hk : Keeps Nowhere W w') : Fr A w0 own w' p q s C bi bs vi vs q0 s0 Ds := h.sn (I := fun _ => False) (Sn.same hk) (fun x => x) (fun x => x) (fun x => x) (fun x => x) (fun x => x) (fun _ _ x => x)
theorem Fr.step (h : Fr A w0 own W p q s C bi bs vi vs q0 s0 Ds) (hk : Keeps Nowhere W w') (r : Nat) : Fr A w0 (give own W.heap.size r) w' p q s C bi bs vi vs q0 s0 Ds := h.sn (I := fun _ => False) (Sn.quiet hk r) (fun x => x) (fun x => x) (fun x => x) (fun x => x) (fun x => x) (fun _ _ x => x)
theorem Fr.box (h : Fr A w0 own W p q s C bi bs vi vs q0 s0 Ds) (i : Nat) (t : TypeId) (cs : List Value) : Fr A w0 (give own W.heap.size i) (W.alloc (.cells cs.toArray t)) p q s ((i, W.heap.size, t, cs) :: C) bi bs vi vs q0 s0 Ds :=
  h.with (h.x.box i t cs) (I := fun _ => False) (Sn.quiet ((Keeps.refl _ _).alloc _) i) (fun x => x) (fun x => x) (fun x => x)
theorem Fr.write {i nb : Nat} {t : TypeId} {cs cs' : List Value} (h : Fr A w0 own W p q s ((i, nb, t, cs) :: C) bi bs vi vs q0 s0 Ds) (hC : ∀ x ∈ C, x.1 ≠ i) (hi : i ≠ 0 ∧ i ≠ 1 ∧ i ≠ 9 ∧ i ≠ 5 ∧ i ≠ 15) (hk : Keeps (fun k => k = nb) W w') (hc : Cells w' nb t cs') : Fr A w0 own w' p q s ((i, nb, t, cs') :: C) bi bs vi vs q0 s0 Ds ∧ Sn (fun k => k = i) own W own w' := by
  obtain ⟨h1, n⟩ := h.x.write hC ⟨hi.1, hi.2.1, hi.2.2.1⟩ hk hc
  exact ⟨h.with h1 n (fun e => hi.2.2.1 e.symm) (fun e => hi.2.2.2.1 e.symm) (fun e => hi.2.2.2.2 e.symm), n⟩
theorem Fr.sub (h : Fr A w0 own W p q s C bi bs vi vs q0 s0 Ds) (hs : ∀ x ∈ C', x ∈ C) : Fr A w0 own W p q s C' bi bs vi vs q0 s0 Ds := ⟨h.x.sub hs, h.wk, h.wo, h.was, h.ds⟩
theorem putObj_keeps (W : World) (l : Nat) (o : Obj) : Keeps (fun k => k = l) W (W.putObj l o) :=
  ⟨rfl, rfl, rfl, by simp [World.putObj], fun _ _ hn => World.putObj_heap_other hn⟩
theorem Fr.put {l i : Nat} {o : Obj} (h : Fr A w0 own W p q s C bi bs vi vs q0 s0 Ds) (ho : own l = i) (hi : i ≠ 0 ∧ i ≠ 1 ∧ i ≠ 9 ∧ i ≠ 5 ∧ i ≠ 15) (hC : ∀ x ∈ C, x.1 ≠ i) : Fr A w0 own (W.putObj l o) p q s C bi bs vi vs q0 s0 Ds := by
  have n : Sn (fun k => k = i) own W own (W.putObj l o) := ⟨fun _ _ => rfl, (putObj_keeps W l o).mono (fun k e _ => by rw [e]; exact ho)⟩
  exact h.sn n (fun e => hi.1 e.symm) (fun e => hi.2.1 e.symm) (fun e => hi.2.2.1 e.symm) (fun e => hi.2.2.2.1 e.symm) (fun e => hi.2.2.2.2 e.symm) (fun x hx e => hC x hx e)
/-- a loop of its own is entered: the block for deferred calls (owner 15), the record (owner 14) -/
theorem Fr.enter (h : Fr A w0 own W p q s C bi bs vi vs q0 s0 Ds) (r : Loop) : ∃ own', Fr A w0 own' ((W.alloc (.deferred (some []))).alloc (.loop r)) p q s C bi bs vi vs q0 s0 (W.heap.size :: Ds) ∧ own' (W.heap.size + 1) = 14 := by
  have ho : (fun k => if k < W.heap.size then own k else if k = W.heap.size then 15 else 14) (W.heap.size + 1) = 14 := by
    show (if W.heap.size + 1 < W.heap.size then own (W.heap.size + 1) else if W.heap.size + 1 = W.heap.size then 15 else 14) = 14
    rw [if_neg (by omega), if_neg (by omega)]
  refine ⟨fun k => if k < W.heap.size then own k else if k = W.heap.size then 15 else 14, ?_, ho⟩
  have K : Keeps Nowhere W ((W.alloc (.deferred (some []))).alloc (.loop r)) := ((Keeps.refl _ _).alloc _).alloc _
  have n : Sn (fun _ => False) own W (fun k => if k < W.heap.size then own k else if k = W.heap.size then 15 else 14) ((W.alloc (.deferred (some []))).alloc (.loop r)) := ⟨fun k hk => if_pos hk, K.any⟩
  have h' := h.sn n (fun x => x) (fun x => x) (fun x => x) (fun x => x) (fun x => x) (fun _ _ x => x)
  refine ⟨h'.x, h'.wk, h'.wo, h'.was, fun D hD => ?_⟩
  rcases List.mem_cons.1 hD with rfl | hD
  · refine ⟨?_, by simp⟩
    rw [Below.heap_alloc _ _ _ (by simp)]
    exact World.alloc_heap_new W _
  · exact h'.ds D hD
/-- a loop within a round is entered: its record (owner 16) -/
theorem Fr.enter2 (h : Fr A w0 own W p q s C bi bs vi vs q0 s0 Ds) (r : Loop) : Fr A w0 (give own W.heap.size 16) (W.alloc (.loop r)) p q s C bi bs vi vs q0 s0 Ds := h.step ((Keeps.refl _ _).alloc _) 16
theorem was_at (h : Fr A w0 own W p q s C bi bs vi vs q0 s0 Ds) {j : Nat} {x : Nat × Int} (hx : q0[j]? = some x) : ∃ a c g, s0 = .slice a q0.length c ∧ q0.length ≤ c ∧ a = some ⟨g, 0, none⟩ ∧ W.cell? ⟨g, j * 2, none⟩ = some (.int .u32 (x.1 : Nat)) ∧ W.cell? ⟨g, j * 2 + 1, none⟩ = some (.int .i64 x.2) := by
  obtain ⟨a, c, he, hl, hc⟩ := h.was
  obtain ⟨g, ha, _, h3, h4⟩ := hc j x hx
  exact ⟨a, c, g, he, hl, ha, h3, h4⟩
theorem fr_stepA {sb so : Nat} {o : OpV15} (c : Aside (OpC w0 sb so o)) (hC : Aside (∀ x ∈ C, x.1 ≠ 1)) (h : Aside (Fr A w0 own W p q s C bi bs vi vs q0 s0 Ds)) :
    Calls Tryd.prog 7 #[.pointer (some ⟨p, 0, none⟩), .agg #[.int .i64 1048576, s], .agg #[.int .i64 o.kind, .int .u32 (o.id : Nat), .int .i64 o.v]] W fun e w' => ∃ n0 l n2 q' own', e = .returned (.tuple #[.agg #[.int .i64 1048576, .slice n0 l n2], .bool true]) ∧
      Aside (Fr A w0 own' w' p q' (.slice n0 l n2) C bi bs vi vs q0 s0 Ds) ∧ Aside (Sn (fun k => k = 1) own W own' w') := by
  refine (f1_stepA c hC ⟨h.it.x⟩).mono ?_
  rintro e w' ⟨n0, l, n2, q', own', rfl, X, N⟩
  exact ⟨n0, l, n2, q', own', rfl, ⟨h.it.with X.it N.it (by decide) (by decide) (by decide)⟩, N⟩
theorem sn_record {l i j : Nat} {ob : Obj} (n : Sn (fun k => k = i) own W own' w') (hl : own l = j) (hij : j ≠ i) (hr : W.heap[l]? = some ob) : own' l = j ∧ w'.heap[l]? = some ob := by
  have hlt := (Array.getElem?_eq_some_iff.1 hr).1
  exact ⟨(n.agree l hlt).trans hl, (n.keeps.block l hlt (fun e => hij (hl.symm.trans e))).trans hr⟩
section
variable {KK : List Bx} {nb ib rb wb l : Nat} {T Ti : TypeId} {c0 c1 u r : Value} {cs : List Value} {ob : Obj}
theorem fin39 (h : Fr A w0 own W p q s ((12, ib, Ti, [u]) :: (11, rb, Ti, [r]) :: (7, wb, T, [c0, c1]) :: KK) bi bs vi vs q0 s0 Ds) (K1 : ∀ x ∈ KK, x.1 = 6) (hl : own l = 14) (hr : W.heap[l]? = some ob) (v : Value) :
    Fr A w0 own (W.setCell ⟨ib, 0, none⟩ v) p q s ((12, ib, Ti, [v]) :: (11, rb, Ti, [r]) :: (7, wb, T, [c0, c1]) :: KK) bi bs vi vs q0 s0 Ds ∧ (W.setCell ⟨ib, 0, none⟩ v).heap[l]? = some ob := by
  have hc := h.x.c _ (List.mem_cons_self ..)
  obtain ⟨h1, n1⟩ := h.write (cs' := [v]) (fun x hx => by
    simp only [List.mem_cons] at hx
    rcases hx with rfl | rfl | hx
    · exact (by decide : (11 : Nat) ≠ 12)
    · exact (by decide : (7 : Nat) ≠ 12)
    · rw [K1 x hx]; decide) (by decide) ((Keeps.refl (fun k => k = ib) W).setCell ⟨ib, 0, none⟩ v (fun _ => rfl)) (hc.1.setCell 0 v)
  exact ⟨h1, (sn_record n1 hl (by decide) hr).2⟩
theorem fin38 {y0 y1 : Value} (h : Fr A w0 own W p q s ((20, nb, T, cs) :: (12, ib, Ti, [u]) :: (11, rb, Ti, [r]) :: (7, wb, T, [c0, c1]) :: KK) bi bs vi vs q0 s0 Ds) (K1 : ∀ x ∈ KK, x.1 = 6) (hl : own l = 14) (hr : W.heap[l]? = some ob) :
    Fr A w0 own ((W.setCell ⟨wb, 0, none⟩ y0).setCell ⟨wb, 1, none⟩ y1) p q s ((12, ib, Ti, [u]) :: (11, rb, Ti, [r]) :: (7, wb, T, [y0, y1]) :: KK) bi bs vi vs q0 s0 Ds ∧ ((W.setCell ⟨wb, 0, none⟩ y0).setCell ⟨wb, 1, none⟩ y1).heap[l]? = some ob := by
  have h9 : Fr A w0 own W p q s ((7, wb, T, [c0, c1]) :: (12, ib, Ti, [u]) :: (11, rb, Ti, [r]) :: KK) bi bs vi vs q0 s0 Ds := h.sub (fun x hx => by
    simp only [List.mem_cons] at hx ⊢
    rcases hx with h | h | h | h
    · exact .inr (.inr (.inr (.inl h)))
    · exact .inr (.inl h)
    · exact .inr (.inr (.inl h))
    · exact .inr (.inr (.inr (.inr h))))
  have hs := set2b (y0 := y0) (y1 := y1) (h9.x.c _ (List.mem_cons_self ..)).1
  obtain ⟨h1, n1⟩ := h9.write (fun x hx => by
    simp only [List.mem_cons] at hx
    rcases hx with rfl | rfl | hx
    · exact (by decide : (12 : Nat) ≠ 7)
    · exact (by decide : (11 : Nat) ≠ 7)
    · rw [K1 x hx]; decide) (by decide) hs.1 hs.2
  refine ⟨h1.sub (fun x hx => ?_), (sn_record n1 hl (by decide) hr).2⟩
  simp only [List.mem_cons] at hx ⊢
  rcases hx with h | h | h | h
  · exact .inr (.inl h)
  · exact .inr (.inr (.inl h))
  · exact .inl h
  · exact .inr (.inr (.inr h))
end
/-- what region 35 reads -/
abbrev Rd35 (b7 p wb sb so ab ib M k : Nat) (c2 so0 : Nat) (s : Value) (o : OpV15) (W : World) : Prop := Rd10 b7 p wb sb so s o W ∧ W.cell? ⟨ab, 0, none⟩ = some (.slice (some ⟨sb, so0, none⟩) M c2) ∧ W.cell? ⟨ib, 0, none⟩ = some (.int .i64 k)
theorem Fr.rd35 {b7 wb sb so ab ib M k c2 so0 : Nat} {o : OpV15} {sv : Value} (m7 : Aside ((6, b7, 24, [.pointer (some ⟨p, 0, none⟩)]) ∈ C)) (mb : Aside ((7, wb, 31, [.int .i64 1048576, sv]) ∈ C)) (ma : Aside ((6, ab, 22, [.slice (some ⟨sb, so0, none⟩) M c2]) ∈ C)) (mi : Aside ((12, ib, 3, [.int .i64 k]) ∈ C)) (c : Aside (OpC w0 sb so o)) (h : Aside (Fr A w0 own W p q s C bi bs vi vs q0 s0 Ds)) : Rd35 b7 p wb sb so ab ib M k c2 so0 sv o W :=
  ⟨F1.rd10 m7 mb c ⟨h.it.x⟩, h.it.x.cell ma.it 0, h.it.x.cell mi.it 0⟩
/-- the end: the answer is stored, the three marks are taken -/
theorem Fr.fin {t d0 d1 d2 : Nat} (h : Fr A w0 own W p q s C bi bs vi vs q0 s0 [d2, d1, d0]) (m : (6, t, 4, [.bool false]) ∈ C) (h21 : d1 < d2) (h20 : d0 < d2) (h10 : d0 < d1) :
    (W.setCell ⟨t, 0, none⟩ (.bool true)).heap[d2]? = some (.deferred (some [])) ∧ ((W.setCell ⟨t, 0, none⟩ (.bool true)).putObj d2 (.deferred none)).heap[d1]? = some (.deferred (some [])) ∧ (((W.setCell ⟨t, 0, none⟩ (.bool true)).putObj d2 (.deferred none)).putObj d1 (.deferred none)).heap[d0]? = some (.deferred (some [])) ∧
    ((((W.setCell ⟨t, 0, none⟩ (.bool true)).putObj d2 (.deferred none)).putObj d1 (.deferred none)).putObj d0 (.deferred none)).cell? ⟨t, 0, none⟩ = some (.bool true) ∧ Below w0.heap.size w0 ((((W.setCell ⟨t, 0, none⟩ (.bool true)).putObj d2 (.deferred none)).putObj d1 (.deferred none)).putObj d0 (.deferred none)) := by
  obtain ⟨e2, o2⟩ := h.ds d2 (by simp)
  obtain ⟨e1, o1⟩ := h.ds d1 (by simp)
  obtain ⟨e0, o0⟩ := h.ds d0 (by simp)
  have ht := h.x.c _ m
  have t2 : d2 ≠ t := fun e => by have h6 : own t = 6 := ht.2; rw [← e, o2] at h6; exact absurd h6 (by decide)
  have t1 : d1 ≠ t := fun e => by have h6 : own t = 6 := ht.2; rw [← e, o1] at h6; exact absurd h6 (by decide)
  have t0 : d0 ≠ t := fun e => by have h6 : own t = 6 := ht.2; rw [← e, o0] at h6; exact absurd h6 (by decide)
  have ks : Keeps (fun k => k = t) W (W.setCell ⟨t, 0, none⟩ (.bool true)) := (Keeps.refl _ W).setCell ⟨t, 0, none⟩ (.bool true) (fun _ => rfl)
  have k2 := putObj_keeps (W.setCell ⟨t, 0, none⟩ (.bool true)) d2 (.deferred none)
  have k1 := putObj_keeps ((W.setCell ⟨t, 0, none⟩ (.bool true)).putObj d2 (.deferred none)) d1 (.deferred none)
  have k0 := putObj_keeps (((W.setCell ⟨t, 0, none⟩ (.bool true)).putObj d2 (.deferred none)).putObj d1 (.deferred none)) d0 (.deferred none)
  have g : ∀ {d : Nat}, d ≠ t → W.heap[d]? = some (.deferred (some [])) → (W.setCell ⟨t, 0, none⟩ (.bool true)).heap[d]? = some (.deferred (some [])) := fun hd he => (ks.block _ (Array.getElem?_eq_some_iff.1 he).1 hd).trans he
  refine ⟨g t2 e2, (World.putObj_heap_other (by omega)).trans (g t1 e1), ((World.putObj_heap_other (by omega)).trans (World.putObj_heap_other (by omega))).trans (g t0 e0), ?_, ?_⟩
  · have c := (((ht.1.setCell 0 (.bool true)).later k2 (fun e => t2 e.symm)).later k1 (fun e => t1 e.symm)).later k0 (fun e => t0 e.symm)
    rw [c.cell]; rfl
  · have K : Keeps (fun k => own k = 6 ∨ own k = 15) W ((((W.setCell ⟨t, 0, none⟩ (.bool true)).putObj d2 (.deferred none)).putObj d1 (.deferred none)).putObj d0 (.deferred none)) :=
      (((ks.mono (fun k e _ => .inl (by rw [e]; exact ht.2))).trans (k2.mono (fun k e _ => .inr (by rw [e]; exact o2)))).trans (k1.mono (fun k e _ => .inr (by rw [e]; exact o1)))).trans (k0.mono (fun k e _ => .inr (by rw [e]; exact o0)))
    exact (h.x.g.g.sn (I := fun k => k = 6 ∨ k = 15) ⟨fun _ _ => rfl, K⟩ (by decide)).bel
theorem ops_at {zs : List OpV15} {a : Option Addr} {c : Nat} (h : ListAt Op15Ok 3 w0 (.slice a zs.length c) zs) : ∀ i z, zs[i]? = some z → ∃ sb so, a = some ⟨sb, so, none⟩ ∧ OpC w0 sb (so + i * 3) z := fun i z hz => by
  obtain ⟨b, o, ha, x0, x1, x2, hid⟩ := op_cells h hz
  exact ⟨b, o, ha, World.block_lt_of_cell? w0 _ x0, x0, x1, x2, hid⟩
end Go.Proofs.YtcdgmbaimbmdmaaDoor
