/-
  culvertlaw06.step: Take
-/
import Derived.Test.YtfphoaphdfhhiaaDoorOStep0
namespace Go.Proofs.YtfphoaphdfhhiaaDoor
open Go.RowKit

section
variable {own own' own1 : Nat → Nat} {w w' w1 W : World} {p tot : Nat} {rs rb ra : List (List Int)}

/-- the buffer holds rb, the document's, in the box t, ra; the document gave G -/
structure InT (own0 : Nat → Nat) (w0 : World) (p : Nat) (tot : Nat) (fv : Value) (ops : List Value) (t : Nat) (fa gv : Value) (ra : List (List Int)) (G : List Int) (rb : List (List Int)) (own : Nat → Nat) (W : World) : Prop where
  i : In6 own0 w0 p rb tot fv fv ops own W
  r : RdL own 3 W fa ra
  g : RdO own 3 W gv G
  b : CellsO own 0 W t 28 [fa]
section
variable {own0 : Nat → Nat} {w0 : World} {fv fa gv : Value} {ops : List Value} {t : Nat} {G : List Int}
theorem InT.sn (h : InT own0 w0 p tot fv ops t fa gv ra G rs own W) (hb : BufO own' 1 2 w' p rb tot) (s : Sn OneTwo own W own' w') : InT own0 w0 p tot fv ops t fa gv ra G rb own' w' :=
  ⟨h.i.call hb s, h.r.sn s ot3, h.g.sn s ot3, h.b.sn s ot0⟩
theorem InT.quiet (h : InT own0 w0 p tot fv ops t fa gv ra G rb own W) (hk : Keeps Nowhere W w') : InT own0 w0 p tot fv ops t fa gv ra G rb own w' := h.sn (h.i.buf.quiet hk) (Sn.same hk)
theorem InT.cells (h : Aside (InT own0 w0 p tot fv ops t fa gv ra G rb own W)) : W.cell? ⟨w0.heap.size + 1 + 1, 0, none⟩ = some (.slice none 0 0) ∧ W.frozen? ⟨w0.heap.size + 1 + 1, 0, none⟩ = false :=
  ⟨by rw [h.it.i.res.1.cell]; rfl, h.it.i.res.1.frozen 0⟩
theorem take_t (htot : tot ≤ 4398046511103) (n : Int) (h : Aside (InT own0 w0 p tot fv ops t fa gv ra G rb own W)) : Calls Tryd.prog 8 #[ptr p, .int .i64 n] W fun e w' => ∃ x own', e = .returned x ∧ Aside (InT own0 w0 p tot fv ops t fa gv ra G (leftN rb n.toNat) own' w' ∧ RdO own' 4 w' x (rb.flatten.take n.toNat)) := by
  refine (takeB (o := 4) (by decide) (by decide) (by decide) h.it.i.buf htot n).mono ?_
  rintro e w' ⟨x, own', rfl, X⟩
  exact ⟨x, own', rfl, ⟨h.it.sn X.it.buf X.it.sn, X.it.row.rdO⟩⟩
theorem rd_res {x : Value} {X : List Int} {y : Value} (h : Aside (InT own0 w0 p tot fv ops t fa gv ra G rb own W)) (hx : RdO own 4 W x X) : RdO own 4 (W.setCell ⟨w0.heap.size + 1 + 1, 0, none⟩ y) x X :=
  hx.sn (I := fun k => k = 0) (own' := own) ⟨fun _ _ => rfl, (Keeps.refl _ _).setCell _ _ (fun _ => h.it.i.res.2)⟩ (by decide)
/-- what a region of step reads -/
def HeldT (w0 : World) (n : Int) (t : Nat) (fa gv : Value) (st : ByteArray) (W : World) : Prop :=
  W.cell? ⟨t, 0, none⟩ = some fa ∧ W.cell? ⟨w0.heap.size + 1, 7, none⟩ = some (.int .i64 n) ∧ (convert 35 9 gv).run Tryd.prog W = .ok (.string st) W
theorem InT.held {n : Int} (h : Aside (InT own0 w0 p tot fv ops t fa gv ra G rb own W)) (hn : Aside (ops[7]? = some (.int .i64 n))) : HeldT w0 n t fa gv (strOf G) W :=
  ⟨by rw [h.it.b.1.cell]; rfl, by rw [h.it.i.op.1.cell]; exact hn.it, run_bytesStr (P := Tryd.prog) W 35 9 5 _ _ Tryd.underlying35 Tryd.underlying5 Tryd.underlying9 h.it.g.1.holds⟩
theorem InT.heldS {n : Int} {x : Option Addr} {y z : Nat} (h : Aside (InT own0 w0 p tot fv ops t fa gv ra G rb own W)) (ht : Aside (t ≠ w0.heap.size + 1 + 1)) (hn : Aside (ops[7]? = some (.int .i64 n))) : HeldT w0 n t fa gv (strOf G) (W.setCell ⟨w0.heap.size + 1 + 1, 0, none⟩ (.slice x y z)) := by
  have hb := h.it.b.1.setOther ⟨w0.heap.size + 1 + 1, 0, none⟩ (.slice x y z) ht.it
  have ho := h.it.i.op.1.setOther ⟨w0.heap.size + 1 + 1, 0, none⟩ (.slice x y z) (show w0.heap.size + 1 ≠ w0.heap.size + 1 + 1 by omega)
  have s : Sn (fun k => k = 0) own W own (W.setCell ⟨w0.heap.size + 1 + 1, 0, none⟩ (.slice x y z)) := ⟨fun _ _ => rfl, (Keeps.refl _ _).setCell _ _ (fun _ => h.it.i.res.2)⟩
  exact ⟨by rw [hb.cell]; rfl, by rw [ho.cell]; exact hn.it, run_bytesStr (P := Tryd.prog) _ 35 9 5 _ _ Tryd.underlying35 Tryd.underlying5 Tryd.underlying9 (h.it.g.sn s (by decide)).1.holds⟩
end
set_option maxRecDepth 20000 in
set_option maxHeartbeats 4000000 in
theorem step_take6 (a : Option Addr) (l c : Nat) (h : BufO own 1 2 w p rs tot) (hr : RdL own 3 w (.slice a l c) rs) (z : OpV6) (hsl : ∃ a l c, z.sl = .slice a l c) (hz : z.kind = 2) (htot : tot ≤ 4398046511103) :
    Calls Tryd.prog 6 #[ptr p, .agg #[.slice a l c], .agg z.cells.toArray] w fun e w' => Stepped6 own w p (leftN rs z.n.toNat) tot e w' := by
  obtain ⟨kind, ⟨v, t, f, s, ln⟩, sl, ns, n⟩ := z
  obtain ⟨sa, sb, sc, rfl⟩ := hsl
  simp only at hz
  subst hz
  obtain ⟨W0, hW0⟩ : ∃ W0, W0 = ((w.alloc (.cells #[.slice a l c] 28)).alloc (.cells #[.int .i64 2, .int .u8 v, .int .u8 t, .int .u16 f, .int .u32 s, .int .u32 ln, .slice sa sb sc, .int .i64 n] 39)).alloc (.cells #[.slice none 0 0] 28) := ⟨_, rfl⟩
  obtain ⟨own0, ho0⟩ : ∃ own0, Aside (own0 = give own w.heap.size 0) := ⟨_, ⟨rfl⟩⟩
  obtain ⟨ops, hops⟩ : ∃ ops : List Value, Aside (ops = [.int .i64 2, .int .u8 v, .int .u8 t, .int .u16 f, .int .u32 s, .int .u32 ln, .slice sa sb sc, .int .i64 n]) := ⟨_, ⟨rfl⟩⟩
  have G0 : Aside (In6 own w p rs tot (.slice a l c) (.slice a l c) ops own0 W0) := by
    rw [ho0.it]
    exact ⟨began6 (fv := .slice a l c) (ops := ops) w h W0 (by rw [hops.it]; exact hW0)⟩
  have hr0 : RdL own0 3 W0 (.slice a l c) rs := hr.sn G0.it.sn ot3
  have RT := Aside.mk (refTake6 hr0 n (Nat.le_trans h.flat_le htot) (Nat.le_trans h.len_le htot))
  have o0 : W0.cell? ⟨w.heap.size + 1, 0, none⟩ = some (.int .i64 2) := by rw [G0.it.op.1.cell, hops.it]; rfl
  have o7 : W0.cell? ⟨w.heap.size + 1, 7, none⟩ = some (.int .i64 n) := by rw [G0.it.op.1.cell, hops.it]; rfl
  have d0 : W0.cell? ⟨w.heap.size, 0, none⟩ = some (.slice a l c) := by rw [G0.it.box.1.cell]; rfl
  have HN : Aside (ops[7]? = some (.int .i64 n)) := ⟨by rw [hops.it]; rfl⟩
  have HT := Aside.mk htot
  show Calls Tryd.prog 6 #[ptr p, .agg #[.slice a l c], .agg #[.int .i64 2, .int .u8 v, .int .u8 t, .int .u16 f, .int .u32 s, .int .u32 ln, .slice sa sb sc, .int .i64 n]] w _
  obtain ⟨st, hst⟩ : ∃ st, Aside (st = strOf (rs.flatten.take n.toNat)) := ⟨_, ⟨rfl⟩⟩
  clear h hr hr0 htot
  go_enter Tryd.func6, Tryd.ntmps6
  go_upto_region 1 with fail
  rw [← hW0]
  clear hW0
  go_upto_region 7 with (first | (go_at_call 7; refine RT.it.mono ?_; rintro e w1 ⟨fa, gv, rfl, X1⟩; obtain ⟨fb, LN, fc, hfa⟩ : ∃ a l c, fa = .slice a l c := (by obtain ⟨_, _, e, _⟩ := X1.it.1.at; exact ⟨_, _, _, e⟩); obtain ⟨gb, GN, gc, hgv⟩ : ∃ a l c, gv = .slice a l c := (by obtain ⟨_, _, e⟩ := X1.it.2.1.shape; exact ⟨_, _, _, e⟩); subst hfa hgv) | fail)
  obtain ⟨W2, hW2⟩ : ∃ W2, W2 = w1.alloc (.cells #[.slice fb LN fc] 28) := ⟨_, rfl⟩
  obtain ⟨own1, ho1⟩ : ∃ own1, Aside (own1 = give (give own0 W0.heap.size 3) w1.heap.size 0) := ⟨_, ⟨rfl⟩⟩
  have G2 : Aside (InT own w p tot (.slice a l c) ops w1.heap.size (.slice fb LN fc) (.slice gb GN gc) (leftN rs n.toNat) (rs.flatten.take n.toNat) rs own1 W2) := by
    have k2 : Keeps Nowhere w1 W2 := by rw [hW2]; exact (Keeps.refl _ _).alloc _
    have s1 : Sn (fun _ => False) own0 W0 (give own0 W0.heap.size 3) w1 := Sn.quiet X1.it.2.2 3
    have s2 : Sn (fun _ => False) (give own0 W0.heap.size 3) w1 own1 W2 := by rw [ho1.it]; exact Sn.quiet k2 0
    refine ⟨⟨(G0.it.give s1).give s2, X1.it.1.sn s2 (fun x => x), X1.it.2.1.sn s2 (fun x => x), ⟨by rw [hW2]; exact Cells.new w1 _ _, by rw [ho1.it]; exact give_new (Nat.le_refl _)⟩⟩⟩
  have HT8 : Aside (w1.heap.size ≠ w.heap.size + 1 + 1) := ⟨by have := G0.it.res.1.lt; have := X1.it.2.2.size; omega⟩
  rw [← hW2]
  clear hW2 o0 o7 d0 G0 RT X1
  have TK := Aside.mk (fun W (g : Aside (InT own w p tot (.slice a l c) ops w1.heap.size (.slice fb LN fc) (.slice gb GN gc) (leftN rs n.toNat) (rs.flatten.take n.toNat) rs own1 W)) => take_t HT.it n g)
  have G2d : Aside (InT own w p tot (.slice a l c) ops w1.heap.size (.slice fb LN fc) (.slice gb GN gc) (leftN rs n.toNat) (rs.flatten.take n.toNat) rs own1 W2.drew) := ⟨G2.it.quiet (Keeps.refl _ _).drew⟩
  have hS : ∀ W own' rb, Aside (InT own w p tot (.slice a l c) ops w1.heap.size (.slice fb LN fc) (.slice gb GN gc) (leftN rs n.toNat) (rs.flatten.take n.toNat) rb own' W) → HeldT w n w1.heap.size (.slice fb LN fc) (.slice gb GN gc) st W := fun W own' rb g => by rw [hst.it]; exact InT.held g HN
  have hS2 : ∀ W own' rb, Aside (InT own w p tot (.slice a l c) ops w1.heap.size (.slice fb LN fc) (.slice gb GN gc) (leftN rs n.toNat) (rs.flatten.take n.toNat) rb own' W) → ∀ x y z, HeldT w n w1.heap.size (.slice fb LN fc) (.slice gb GN gc) st (W.setCell ⟨w.heap.size + 1 + 1, 0, none⟩ (.slice x y z)) := fun W own' rb g x y z => by rw [hst.it]; exact InT.heldS g HT8 HN
  have HS := Aside.mk hS
  have HS2 := Aside.mk hS2
  clear hS hS2
  go_region_held_law (fun w' => w'.cell? ⟨w1.heap.size, 0, none⟩ = some (.slice fb LN fc) ∧ w'.cell? ⟨w.heap.size + 1, 7, none⟩ = some (.int .i64 n) ∧ (convert 35 9 (.slice gb GN gc)).run Tryd.prog w' = .ok (.string st) w') (first | exact HS.it _ _ _ (by assumption) | exact HS2.it _ _ _ (by assumption) _ _ _)
    ((go_at_call 8; refine (TK.it _ (by assumption)).mono ?_; rintro e w3 ⟨x3, own3, rfl, X3⟩; have G3 := Aside.mk X3.it.1; have d1 := (InT.cells G3).1; have d2 := (InT.cells G3).2; have sc := run_bytesStr (P := Tryd.prog) w3 35 9 5 _ _ Tryd.underlying35 Tryd.underlying5 Tryd.underlying9 X3.it.2.1.holds; rw [← hst.it] at sc; have sc2 := run_bytesStr (P := Tryd.prog) (w3.setCell ⟨w.heap.size + 1 + 1, 0, none⟩ (.slice fb LN fc)) 35 9 5 _ _ Tryd.underlying35 Tryd.underlying5 Tryd.underlying9 (rd_res G3 X3.it.2).1.holds; rw [← hst.it] at sc2))
  all_goals
    go_wp2
    obtain ⟨r0, X⟩ := ended6 (rs' := leftN rs n.toNat) (by omega) G3.it.i.buf G3.it.r G3.it.i.sn G3.it.i.res rfl
    refine bodyPost_ret (v := .tuple #[.agg #[.slice fb LN fc], .bool true]) (by simp [results, Tryd.results6, go_sem, r0]) rfl ?_
    exact ⟨_, _, _, _, rfl, X⟩
end
end Go.Proofs.YtfphoaphdfhhiaaDoor
