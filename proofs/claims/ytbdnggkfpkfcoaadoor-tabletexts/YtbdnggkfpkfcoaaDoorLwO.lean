/-
  culvertlaw15.TableOwn
-/
import Derived.Test.YtbdnggkfpkfcoaaDoorLwV
import Derived.Test.YtbdnggkfpkfcoaaDoorLwS
import Derived.Test.YtbdnggkfpkfcoaaDoorLwX
namespace Go.Proofs.YtbdnggkfpkfcoaaDoor
open Go.RowKit Tbint

variable {A : Nat → Addr} {w w' W : World} {own own' : Nat → Nat} {p p2 wb xb : Nat} {L L2 : Tl Int} {vt v ut u : Value} {I : Nat → Prop} {b q id : Nat} {kd x : Int}

/-- two tables and the document's, each in its box -/
structure Po (A : Nat → Addr) (w : World) (own : Nat → Nat) (W : World) (p : Nat) (L : Tl Int) (vt : Value) (wb : Nat) (v : Value) (p2 : Nat) (L2 : Tl Int) (ut : Value) (xb : Nat) (u : Value) : Prop where
  g : OnG A w own W
  t : Tp own 1 W p 9 L vt
  s : Tp own 2 W p2 4 L2 ut
  c : CellsO own 8 W wb 31 [.int .i64 9, v]
  d : CellsO own 8 W xb 31 [.int .i64 4, u]
  n : wb ≠ xb
theorem Po.sn (h : Po A w own W p L vt wb v p2 L2 ut xb u) (s : Sn I own W own' w') (h0 : ¬ I 0) (h1 : ¬ I 1) (h2 : ¬ I 2) (h8 : ¬ I 8) (h9 : ¬ I 9) : Po A w own' w' p L vt wb v p2 L2 ut xb u := ⟨h.g.sn s h0, h.t.sn s h1 h9, h.s.sn s h2 h9, h.c.sn s h8, h.d.sn s h8, h.n⟩
theorem Po.quiet (h : Po A w own W p L vt wb v p2 L2 ut xb u) (hk : Keeps Nowhere W w') : Po A w own w' p L vt wb v p2 L2 ut xb u := h.sn (I := fun _ => False) (Sn.same hk) (fun x => x) (fun x => x) (fun x => x) (fun x => x) (fun x => x)
theorem Po.step (h : Po A w own W p L vt wb v p2 L2 ut xb u) (hk : Keeps Nowhere W w') (r : Nat) : Po A w (give own W.heap.size r) w' p L vt wb v p2 L2 ut xb u := h.sn (I := fun _ => False) (Sn.quiet hk r) (fun x => x) (fun x => x) (fun x => x) (fun x => x) (fun x => x)
theorem Po.bel (h : Po A w own W p L vt wb v p2 L2 ut xb u) : Keeps Nowhere w W := Keeps.ofBelow h.g.g.bel
theorem Po.cells (h : Po A w own W p L vt wb v p2 L2 ut xb u) : W.cell? ⟨wb, 0, none⟩ = some (.int .i64 9) ∧ W.cell? ⟨wb, 1, none⟩ = some v ∧ W.frozen? ⟨wb, 0, none⟩ = false ∧ W.frozen? ⟨wb, 1, none⟩ = false ∧ W.cell? ⟨xb, 0, none⟩ = some (.int .i64 4) ∧ W.cell? ⟨xb, 1, none⟩ = some u ∧ W.frozen? ⟨xb, 0, none⟩ = false ∧ W.frozen? ⟨xb, 1, none⟩ = false :=
  ⟨by rw [h.c.1.cell]; rfl, by rw [h.c.1.cell]; rfl, h.c.1.frozen 0, h.c.1.frozen 1, by rw [h.d.1.cell]; rfl, by rw [h.d.1.cell]; rfl, h.d.1.frozen 0, h.d.1.frozen 1⟩
theorem Po.h4 (h : Aside (Po A w own W p L vt wb v p2 L2 ut xb u)) : W.cell? ⟨wb, 0, none⟩ = some (.int .i64 9) ∧ W.cell? ⟨wb, 1, none⟩ = some v ∧ W.cell? ⟨xb, 0, none⟩ = some (.int .i64 4) ∧ W.cell? ⟨xb, 1, none⟩ = some u := ⟨h.it.cells.1, h.it.cells.2.1, h.it.cells.2.2.2.2.1, h.it.cells.2.2.2.2.2.1⟩
theorem Po.write1 (h : Po A w own W p L vt wb v p2 L2 ut xb u) (y : Value) : Po A w own ((W.setCell ⟨wb, 0, none⟩ (.int .i64 9)).setCell ⟨wb, 1, none⟩ y) p L vt wb y p2 L2 ut xb u := by
  have s8 : Sn (fun k => k = 8) own W own ((W.setCell ⟨wb, 0, none⟩ (.int .i64 9)).setCell ⟨wb, 1, none⟩ y) := ⟨fun _ _ => rfl, ((Keeps.refl _ _).setCell _ _ (fun _ => h.c.2)).setCell _ _ (fun _ => h.c.2)⟩
  exact ⟨h.g.sn s8 (by decide), h.t.sn s8 (by decide) (by decide), h.s.sn s8 (by decide) (by decide), ⟨(h.c.1.setCell 0 (.int .i64 9)).setCell 1 y, h.c.2⟩, ⟨(h.d.1.setOther _ _ (fun e => h.n e.symm)).setOther _ _ (fun e => h.n e.symm), h.d.2⟩, h.n⟩
theorem Po.write2 (h : Po A w own W p L vt wb v p2 L2 ut xb u) (y : Value) : Po A w own ((W.setCell ⟨xb, 0, none⟩ (.int .i64 4)).setCell ⟨xb, 1, none⟩ y) p L vt wb v p2 L2 ut xb y := by
  have s8 : Sn (fun k => k = 8) own W own ((W.setCell ⟨xb, 0, none⟩ (.int .i64 4)).setCell ⟨xb, 1, none⟩ y) := ⟨fun _ _ => rfl, ((Keeps.refl _ _).setCell _ _ (fun _ => h.d.2)).setCell _ _ (fun _ => h.d.2)⟩
  exact ⟨h.g.sn s8 (by decide), h.t.sn s8 (by decide) (by decide), h.s.sn s8 (by decide) (by decide), ⟨(h.c.1.setOther _ _ h.n).setOther _ _ h.n, h.c.2⟩, ⟨(h.d.1.setCell 0 (.int .i64 4)).setCell 1 y, h.d.2⟩, h.n⟩
/-- an op of a script, which nobody changes -/
def OpAt (w : World) (b q : Nat) (kd : Int) (id : Nat) (x : Int) : Prop := b < w.heap.size ∧ w.cell? ⟨b, q, none⟩ = some (.int .i64 kd) ∧ w.cell? ⟨b, q + 1, none⟩ = some (.int .u32 (id : Nat)) ∧ w.cell? ⟨b, q + 2, none⟩ = some (.int .i64 x)
theorem OpAt.later (h : OpAt w b q kd id x) (hk : Keeps Nowhere w w') : OpAt w' b q kd id x := by
  have hb := hk.block b h.1 (fun x => x)
  exact ⟨Nat.lt_of_lt_of_le h.1 hk.size, by rw [World.cell?_of_block (w := w) hb]; exact h.2.1, by rw [World.cell?_of_block (w := w) hb]; exact h.2.2.1, by rw [World.cell?_of_block (w := w) hb]; exact h.2.2.2⟩
theorem Po.op (o : Aside (OpAt w b q kd id x)) (h : Aside (Po A w own W p L vt wb v p2 L2 ut xb u)) : W.cell? ⟨b, q, none⟩ = some (.int .i64 kd) ∧ W.cell? ⟨b, q + 1, none⟩ = some (.int .u32 (id : Nat)) ∧ W.cell? ⟨b, q + 2, none⟩ = some (.int .i64 x) := (o.it.later h.it.bel).2
theorem Po.op1 (o : Aside (OpAt w b q kd id x)) (h : Aside (Po A w own W p L vt wb v p2 L2 ut xb u)) {y : Value} : ((W.setCell ⟨wb, 0, none⟩ (.int .i64 9)).setCell ⟨wb, 1, none⟩ y).cell? ⟨b, q, none⟩ = some (.int .i64 kd) ∧ ((W.setCell ⟨wb, 0, none⟩ (.int .i64 9)).setCell ⟨wb, 1, none⟩ y).cell? ⟨b, q + 1, none⟩ = some (.int .u32 (id : Nat)) ∧ ((W.setCell ⟨wb, 0, none⟩ (.int .i64 9)).setCell ⟨wb, 1, none⟩ y).cell? ⟨b, q + 2, none⟩ = some (.int .i64 x) := (o.it.later (h.it.write1 y).bel).2
theorem Po.op2 (o : Aside (OpAt w b q kd id x)) (h : Aside (Po A w own W p L vt wb v p2 L2 ut xb u)) {y : Value} : ((W.setCell ⟨xb, 0, none⟩ (.int .i64 4)).setCell ⟨xb, 1, none⟩ y).cell? ⟨b, q, none⟩ = some (.int .i64 kd) ∧ ((W.setCell ⟨xb, 0, none⟩ (.int .i64 4)).setCell ⟨xb, 1, none⟩ y).cell? ⟨b, q + 1, none⟩ = some (.int .u32 (id : Nat)) ∧ ((W.setCell ⟨xb, 0, none⟩ (.int .i64 4)).setCell ⟨xb, 1, none⟩ y).cell? ⟨b, q + 2, none⟩ = some (.int .i64 x) := (o.it.later (h.it.write2 y).bel).2
theorem po_step1 (h : Aside (Po A w own W p L v wb v p2 L2 ut xb u)) (hid : id ≤ 4294967295) : Calls Tryd.prog 13 #[ptr p, .agg #[.int .i64 9, v], .agg #[.int .i64 kd, .int .u32 (id : Nat), .int .i64 x]] W fun e w' => ∃ qa ql qc L6 own6, e = .returned (.tuple #[.agg #[.int .i64 9, .slice qa ql qc], .bool true]) ∧ Aside (Po A w own6 w' p L6 (.slice qa ql qc) wb v p2 L2 ut xb u) := by
  refine (step15 own W h.it.g h.it.t kd id x hid (by decide)).mono ?_
  rintro e w' ⟨v6, L6, own6, rfl, X6⟩
  obtain ⟨qa, qc, hq, _⟩ := X6.it.1.d.shape
  subst hq
  exact ⟨qa, _, qc, L6, own6, rfl, ⟨h.it.g.sn X6.it.2 (by decide), X6.it.1, h.it.s.sn X6.it.2 (by decide) (by decide), h.it.c.sn X6.it.2 (by decide), h.it.d.sn X6.it.2 (by decide), h.it.n⟩⟩
theorem po_step2 (h : Aside (Po A w own W p L vt wb v p2 L2 u xb u)) (hid : id ≤ 4294967295) : Calls Tryd.prog 13 #[ptr p2, .agg #[.int .i64 4, u], .agg #[.int .i64 kd, .int .u32 (id : Nat), .int .i64 x]] W fun e w' => ∃ qa ql qc L6 own6, e = .returned (.tuple #[.agg #[.int .i64 4, .slice qa ql qc], .bool true]) ∧ Aside (Po A w own6 w' p L vt wb v p2 L6 (.slice qa ql qc) xb u) := by
  refine (step15 own W h.it.g h.it.s kd id x hid (by decide)).mono ?_
  rintro e w' ⟨v6, L6, own6, rfl, X6⟩
  obtain ⟨qa, qc, hq, _⟩ := X6.it.1.d.shape
  subst hq
  exact ⟨qa, _, qc, L6, own6, rfl, ⟨h.it.g.sn X6.it.2 (by decide), h.it.t.sn X6.it.2 (by decide) (by decide), X6.it.1, h.it.c.sn X6.it.2 (by decide), h.it.d.sn X6.it.2 (by decide), h.it.n⟩⟩
theorem po_ids2 (h : Aside (Po A w own W p L vt wb v p2 L2 ut xb u)) : Calls Tryd.prog 35 #[ptr p2] W fun e w' => ∃ g cap, e = .returned (.slice (some ⟨g, 0, none⟩) L2.length cap) ∧ Aside (RdU w' (.slice (some ⟨g, 0, none⟩) L2.length cap) (ks L2)) ∧ Aside (Po A w own w' p L vt wb v p2 L2 ut xb u) := by
  refine (ids_at h.it.s.t).mono ?_
  rintro e w' ⟨g, cap, rfl, _, R, K⟩
  exact ⟨g, cap, rfl, ⟨owns_rdU R.it⟩, ⟨h.it.quiet K.it⟩⟩
theorem po_dids1 (h : Aside (Po A w own W p L v wb v p2 L2 ut xb u)) {r : Value} {l : List Nat} (hr : Aside (RdU W r l)) : Calls Tryd.prog 30 #[.agg #[.int .i64 9, v]] W fun e w' => ∃ v2, e = .returned v2 ∧ Aside (RdU w' v2 (ks L)) ∧ Aside (RdU w' r l) ∧ Aside (Po A w own w' p L v wb v p2 L2 ut xb u) ∧ Aside (Keeps Nowhere W w') := by
  refine (dids 9 h.it.t.d (up_len h.it.t.t.up)).mono ?_
  rintro e w' ⟨v2, rfl, R, K⟩
  exact ⟨v2, rfl, R, ⟨hr.it.quiet K.it⟩, ⟨h.it.quiet K.it⟩, K⟩
theorem po_dids2 (h : Aside (Po A w own W p L vt wb v p2 L2 u xb u)) {r : Value} {l : List Nat} (hr : Aside (RdU W r l)) : Calls Tryd.prog 30 #[.agg #[.int .i64 4, u]] W fun e w' => ∃ v2, e = .returned v2 ∧ Aside (RdU w' v2 (ks L2)) ∧ Aside (RdU w' r l) ∧ Aside (Po A w own w' p L vt wb v p2 L2 u xb u) ∧ Aside (Keeps Nowhere W w') := by
  refine (dids 4 h.it.s.d (up_len h.it.s.t.up)).mono ?_
  rintro e w' ⟨v2, rfl, R, K⟩
  exact ⟨v2, rfl, R, ⟨hr.it.quiet K.it⟩, ⟨h.it.quiet K.it⟩, K⟩
theorem po_same (h : Aside (Po A w own W p L vt wb v p2 L2 ut xb u)) {a c : Value} {l : List Nat} (ha : Aside (RdU W a l)) (hc : Aside (RdU W c l)) : Calls Tryd.prog 28 #[a, c] W fun e w' => e = .returned (.bool true) ∧ Aside (Po A w own w' p L vt wb v p2 L2 ut xb u) ∧ Aside (Keeps Nowhere W w') := by
  refine (same_ids a c l ha.it hc.it).mono ?_
  rintro e w' ⟨rfl, K⟩
  exact ⟨rfl, ⟨h.it.quiet K.it⟩, K⟩
end Go.Proofs.YtbdnggkfpkfcoaaDoor
