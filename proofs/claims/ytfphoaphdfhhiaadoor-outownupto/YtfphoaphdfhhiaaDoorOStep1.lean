/-
  culvertlaw06.step: Put
-/
import Derived.Test.YtfphoaphdfhhiaaDoorOStep2
namespace Go.Proofs.YtfphoaphdfhhiaaDoor
open Go.RowKit

section
variable {own own' own1 : Nat → Nat} {w w' w1 W : World} {p tot : Nat} {rs rb ra : List (List Int)}

section
variable {own0 : Nat → Nat} {w0 : World} {fv fa gv : Value} {ops : List Value} {t8 : Nat} {A : Nat → Addr} {w00 : World} {ns : List Int} {v t f s l : Int} {dd : Value}
/-- within Put: the buffer holds rb, the document's, in the box t8, ra; the op's payload can be read -/
structure InP (A : Nat → Addr) (w00 : World) (own0 : Nat → Nat) (w0 : World) (p : Nat) (tot : Nat) (fv : Value) (ops : List Value) (t8 : Nat) (fa : Value) (ra : List (List Int)) (dd : Value) (ns : List Int) (rb : List (List Int)) (own : Nat → Nat) (W : World) : Prop where
  i : In6 own0 w0 p rb tot fv fv ops own W
  r : RdL own 3 W fa ra
  b : CellsO own 0 W t8 28 [fa]
  g : OnG A w00 own W
  d : Rd w00 dd ns
theorem InP.sn {tot' : Nat} (h : InP A w00 own0 w0 p tot fv ops t8 fa ra dd ns rs own W) (hb : BufO own' 1 2 w' p rb tot') (s : Sn OneTwo own W own' w') : InP A w00 own0 w0 p tot' fv ops t8 fa ra dd ns rb own' w' :=
  ⟨h.i.call hb s, h.r.sn s ot3, h.b.sn s ot0, h.g.sn s ot0, h.d⟩
theorem InP.quiet (h : InP A w00 own0 w0 p tot fv ops t8 fa ra dd ns rb own W) (hk : Keeps Nowhere W w') : InP A w00 own0 w0 p tot fv ops t8 fa ra dd ns rb own w' := h.sn (h.i.buf.quiet hk) (Sn.same hk)
theorem InP.cells (h : Aside (InP A w00 own0 w0 p tot fv ops t8 fa ra dd ns rb own W)) : W.cell? ⟨w0.heap.size + 1 + 1, 0, none⟩ = some (.slice none 0 0) ∧ W.frozen? ⟨w0.heap.size + 1 + 1, 0, none⟩ = false :=
  ⟨by rw [h.it.i.res.1.cell]; rfl, h.it.i.res.1.frozen 0⟩
theorem copied_p (hn : ns.length ≤ 140737488355328) (h : Aside (InP A w00 own0 w0 p tot fv ops t8 fa ra dd ns rb own W)) :
    Calls Tryd.prog 16 #[frm v t f s l dd] W fun e w' => ∃ d', e = .returned (frm v t f s l d') ∧ Aside (InP A w00 own0 w0 p tot fv ops t8 fa ra dd ns rb own w' ∧ Rd w' d' ns) := by
  refine (copied_any own 5 v t f s l dd ns (h.it.d.later h.it.g.g.bel) hn).mono ?_
  rintro e w' ⟨d', rfl, X⟩
  exact ⟨d', rfl, ⟨h.it.quiet X.it.2, X.it.1.rd⟩⟩
theorem code_p {ev : Value} {k : Int} (hc : Coded A ev k) (h : Aside (InP A w00 own0 w0 p tot fv ops t8 fa ra dd ns rb own W)) : Calls Tryd.prog 10 #[ev] W fun e w' => e = .returned (.int .i64 k) ∧ Aside (InP A w00 own0 w0 p tot fv ops t8 fa ra dd ns rb own w') := by
  refine (code_of h.it.g.sents hc).mono ?_
  rintro e w' ⟨rfl, rfl⟩
  exact ⟨rfl, h⟩
/-- what Put leaves waiting -/
def putL (rs : List (List Int)) (v t f s l : Int) (ns : List Int) : List (List Int) := if (ns.length : Int) = szH t l then rs ++ [enc v t f s l ++ ns] else rs
theorem put_p {d' : Value} (hn : ns.length ≤ 1048576) (hf0 : 0 ≤ f) (hf1 : f ≤ 65535) (hs0 : 0 ≤ s) (hs1 : s ≤ 4294967295) (hl0 : 0 ≤ l) (hl1 : l ≤ 4294967295) (htot : tot ≤ 4398044413932)
    (h : Aside (InP A w00 own0 w0 p tot fv ops t8 fa ra dd ns rb own W ∧ Rd W d' ns)) :
    Calls Tryd.prog 11 #[ptr p, frm v t f s l d'] W fun e w' => ∃ ev own', e = .returned ev ∧ Aside (InP A w00 own0 w0 p (tot + 1048588) fv ops t8 fa ra dd ns (putL rb v t f s l ns) own' w' ∧ Coded A ev (bE t l ns.length)) := by
  have hle := h.it.1.i.buf.len_le
  by_cases hok : (ns.length : Int) = szH t l
  · refine (putB_ok (by decide) h.it.1.i.buf h.it.1.g.sents v t f s l d' ns h.it.2 (by omega) hf0 hf1 hs0 hs1 hl0 hl1 hok (by omega) (by simp only [maxI]; omega)).mono ?_
    rintro e w' ⟨own', rfl, X⟩
    have s1 : Sn OneTwo own W own' w' := X.it.2.mono (fun _ e => .inl e)
    refine ⟨_, own', rfl, ⟨?_, by unfold bE; rw [if_pos hok]; exact Coded.none⟩⟩
    obtain ⟨qp, q, hb⟩ := X.it.1
    have hb' : BufO own' 1 2 w' p (putL rb v t f s l ns) (tot + 1048588) := by
      unfold putL
      rw [if_pos hok]
      exact ⟨qp, q, { hb with tot := Nat.le_trans hb.tot (by omega) }⟩
    exact h.it.1.sn hb' s1
  · refine (putB_bad p h.it.1.g.sents v t f s l d' ns h.it.2 (by omega) hf0 hf1 hs0 hs1 hl0 hl1 hok).mono ?_
    rintro e w' ⟨ev, rfl, X⟩
    refine ⟨_, own, rfl, ⟨?_, by unfold bE; rw [if_neg hok]; exact X.it.1⟩⟩
    obtain ⟨qp, q, hb⟩ := h.it.1.i.buf.quiet X.it.2
    have hb' : BufO own 1 2 w' p (putL rb v t f s l ns) (tot + 1048588) := by
      unfold putL
      rw [if_neg hok]
      exact ⟨qp, q, { hb with tot := Nat.le_trans hb.tot (by omega) }⟩
    exact h.it.1.sn hb' (Sn.same X.it.2)
theorem refPut_p (hr : RdL own 3 W fv rs) (hs : Sents 103 codeVars A W) (hd : Rd W dd ns) (hn : ns.length ≤ 1048576) (hf0 : 0 ≤ f) (hf1 : f ≤ 65535) (hs0 : 0 ≤ s) (hs1 : s ≤ 4294967295) (hl0 : 0 ≤ l) (hl1 : l ≤ 4294967295) (hM : rs.length ≤ 4398046511102) :
    Calls Tryd.prog 9 #[.agg #[fv], frm v t f s l dd] W fun e w' => ∃ fv', e = .returned (.tuple #[.agg #[fv'], .int .i64 (bE t l ns.length)]) ∧ Aside (RdL (give own W.heap.size 3) 3 w' fv' (putL rs v t f s l ns) ∧ Keeps Nowhere W w') := by
  by_cases hok : (ns.length : Int) = szH t l
  · unfold putL bE
    rw [if_pos hok, if_pos hok]
    exact refPut6_ok hr hs v t f s l dd ns hd (by omega) hf0 hf1 hs0 hs1 hl0 hl1 hok hM
  · unfold putL bE
    rw [if_neg hok, if_neg hok]
    refine (refPut6_bad fv (by obtain ⟨_, _, e, _⟩ := hr.at; exact ⟨_, _, _, e⟩) hs v t f s l dd ns hd (by omega) hf0 hf1 hs0 hs1 hl0 hl1 hok).mono ?_
    rintro e w' ⟨rfl, k⟩
    exact ⟨fv, rfl, ⟨hr.sn (I := fun _ => False) (Sn.quiet k.it 3) (fun x => x), k.it⟩⟩
end
set_option maxRecDepth 20000 in
set_option maxHeartbeats 4000000 in
theorem step_put6 {A : Nat → Addr} {w00 : World} (a : Option Addr) (l c : Nat) (h : BufO own 1 2 w p rs tot) (hr : RdL own 3 w (.slice a l c) rs) (g : OnG A w00 own w) (z : OpV6) (hz : z.kind = 1) (hh : z.h.ok) (hd : Rd w00 z.sl z.ns) (hn : z.ns.length ≤ 1048576) (htot : tot ≤ 4398044413932) :
    Calls Tryd.prog 6 #[ptr p, .agg #[.slice a l c], .agg z.cells.toArray] w fun e w' => Stepped6 own w p (putL rs z.h.v z.h.t z.h.f z.h.s z.h.l z.ns) (tot + 1048588) e w' := by
  obtain ⟨kind, ⟨v, t, f, s, ln⟩, sl, ns, n⟩ := z
  obtain ⟨sa, sc, hsl⟩ := hd.shape
  obtain ⟨sb, hsb⟩ : ∃ sb, Aside (sb = ns.length) := ⟨_, ⟨rfl⟩⟩
  simp only at hz hh hd hn hsl
  rw [← hsb.it] at hsl
  subst hz hsl
  obtain ⟨_, _, ⟨hf0, hf1⟩, ⟨hs0, hs1⟩, ⟨hl0, hl1⟩⟩ := hh
  simp only at hf0 hf1 hs0 hs1 hl0 hl1
  obtain ⟨W0, hW0⟩ : ∃ W0, W0 = ((w.alloc (.cells #[.slice a l c] 28)).alloc (.cells #[.int .i64 1, .int .u8 v, .int .u8 t, .int .u16 f, .int .u32 s, .int .u32 ln, .slice sa sb sc, .int .i64 n] 39)).alloc (.cells #[.slice none 0 0] 28) := ⟨_, rfl⟩
  obtain ⟨own0, ho0⟩ : ∃ own0, Aside (own0 = give own w.heap.size 0) := ⟨_, ⟨rfl⟩⟩
  obtain ⟨ops, hops⟩ : ∃ ops : List Value, Aside (ops = [.int .i64 1, .int .u8 v, .int .u8 t, .int .u16 f, .int .u32 s, .int .u32 ln, .slice sa sb sc, .int .i64 n]) := ⟨_, ⟨rfl⟩⟩
  have G0 : Aside (In6 own w p rs tot (.slice a l c) (.slice a l c) ops own0 W0) := by
    rw [ho0.it]
    exact ⟨began6 (fv := .slice a l c) (ops := ops) w h W0 (by rw [hops.it]; exact hW0)⟩
  have hg0 : OnG A w00 own0 W0 := g.sn G0.it.sn ot0
  have RP := Aside.mk (refPut_p (v := v) (t := t) (hr.sn G0.it.sn ot3) hg0.sents (hd.later hg0.g.bel) hn hf0 hf1 hs0 hs1 hl0 hl1 (by have := h.len_le; omega))
  have HG := Aside.mk hg0
  have HD := Aside.mk hd
  have CP := Aside.mk (fun (fa : Value) (t8 : Nat) ra rb own1 W (g : Aside (InP A w00 own w p tot (.slice a l c) ops t8 fa ra (.slice sa sb sc) ns rb own1 W)) => copied_p (v := v) (t := t) (f := f) (s := s) (l := ln) (by omega) g)
  have PP := Aside.mk (fun (fa : Value) (t8 : Nat) ra rb own1 W d' (g : Aside (InP A w00 own w p tot (.slice a l c) ops t8 fa ra (.slice sa sb sc) ns rb own1 W ∧ Rd W d' ns)) => put_p (v := v) (t := t) hn hf0 hf1 hs0 hs1 hl0 hl1 htot g)
  have o : ∀ k, W0.cell? ⟨w.heap.size + 1, k, none⟩ = [.int .i64 1, .int .u8 v, .int .u8 t, .int .u16 f, .int .u32 s, .int .u32 ln, .slice sa sb sc, .int .i64 n][k]? := fun k => by rw [G0.it.op.1.cell, hops.it]
  have o0 : W0.cell? ⟨w.heap.size + 1, 0, none⟩ = some (.int .i64 1) := o 0
  have o1 : W0.cell? ⟨w.heap.size + 1, 1, none⟩ = some (.int .u8 v) := o 1
  have o2 : W0.cell? ⟨w.heap.size + 1, 2, none⟩ = some (.int .u8 t) := o 2
  have o3 : W0.cell? ⟨w.heap.size + 1, 3, none⟩ = some (.int .u16 f) := o 3
  have o4 : W0.cell? ⟨w.heap.size + 1, 4, none⟩ = some (.int .u32 s) := o 4
  have o5 : W0.cell? ⟨w.heap.size + 1, 5, none⟩ = some (.int .u32 ln) := o 5
  have o6 : W0.cell? ⟨w.heap.size + 1, 6, none⟩ = some (.slice sa sb sc) := o 6
  have d0 : W0.cell? ⟨w.heap.size, 0, none⟩ = some (.slice a l c) := by rw [G0.it.box.1.cell]; rfl
  show Calls Tryd.prog 6 #[ptr p, .agg #[.slice a l c], .agg #[.int .i64 1, .int .u8 v, .int .u8 t, .int .u16 f, .int .u32 s, .int .u32 ln, .slice sa sb sc, .int .i64 n]] w _
  obtain ⟨K, hK⟩ : ∃ K, Aside (K = bE t ln ns.length) := ⟨_, ⟨rfl⟩⟩
  rw [← hK.it] at RP PP
  clear h hr htot g hg0 o hf0 hf1 hs0 hs1 hl0 hl1 hd hn
  go_enter Tryd.func6, Tryd.ntmps6
  go_upto_region 1 with fail
  rw [← hW0]
  clear hW0
  go_upto_region 4 with (first | (go_at_call 9; refine RP.it.mono ?_; rintro e w1 ⟨fa, rfl, X1⟩; obtain ⟨fb, LN, fc, hfa⟩ : ∃ a l c, fa = .slice a l c := (by obtain ⟨_, _, e, _⟩ := X1.it.1.at; exact ⟨_, _, _, e⟩); subst hfa) | fail)
  obtain ⟨W2, hW2⟩ : ∃ W2, W2 = w1.alloc (.cells #[.slice fb LN fc] 28) := ⟨_, rfl⟩
  obtain ⟨own1, ho1⟩ : ∃ own1, Aside (own1 = give (give own0 W0.heap.size 3) w1.heap.size 0) := ⟨_, ⟨rfl⟩⟩
  have G2 : Aside (InP A w00 own w p tot (.slice a l c) ops w1.heap.size (.slice fb LN fc) (putL rs v t f s ln ns) (.slice sa sb sc) ns rs own1 W2) := by
    have k2 : Keeps Nowhere w1 W2 := by rw [hW2]; exact (Keeps.refl _ _).alloc _
    have s1 : Sn (fun _ => False) own0 W0 (give own0 W0.heap.size 3) w1 := Sn.quiet X1.it.2 3
    have s2 : Sn (fun _ => False) (give own0 W0.heap.size 3) w1 own1 W2 := by rw [ho1.it]; exact Sn.quiet k2 0
    refine ⟨⟨(G0.it.give s1).give s2, X1.it.1.sn s2 (fun x => x), ⟨by rw [hW2]; exact Cells.new w1 _ _, by rw [ho1.it]; exact give_new (Nat.le_refl _)⟩, (HG.it.sn s1 (fun x => x)).sn s2 (fun x => x), HD.it⟩⟩
  have HT8 : Aside (w1.heap.size ≠ w.heap.size + 1 + 1) := ⟨by have := G0.it.res.1.lt; have := X1.it.2.size; omega⟩
  rw [← hW2]
  clear hW2 o0 o1 o2 o3 o4 o5 o6 d0 G0 RP X1
  have G2d : Aside (InP A w00 own w p tot (.slice a l c) ops w1.heap.size (.slice fb LN fc) (putL rs v t f s ln ns) (.slice sa sb sc) ns rs own1 W2.drew) := ⟨G2.it.quiet (Keeps.refl _ _).drew⟩
  have HS : Aside (∀ W own' rb tot', Aside (InP A w00 own w p tot' (.slice a l c) ops w1.heap.size (.slice fb LN fc) (putL rs v t f s ln ns) (.slice sa sb sc) ns rb own' W) → W.cell? ⟨w1.heap.size, 0, none⟩ = some (.slice fb LN fc) ∧ W.cell? ⟨w.heap.size + 1, 1, none⟩ = some (.int .u8 v) ∧ W.cell? ⟨w.heap.size + 1, 2, none⟩ = some (.int .u8 t) ∧ W.cell? ⟨w.heap.size + 1, 3, none⟩ = some (.int .u16 f) ∧ W.cell? ⟨w.heap.size + 1, 4, none⟩ = some (.int .u32 s) ∧ W.cell? ⟨w.heap.size + 1, 5, none⟩ = some (.int .u32 ln) ∧ W.cell? ⟨w.heap.size + 1, 6, none⟩ = some (.slice sa sb sc)) :=
    ⟨fun W own' rb tot' g => ⟨by rw [g.it.b.1.cell]; rfl, by rw [g.it.i.op.1.cell, hops.it]; rfl, by rw [g.it.i.op.1.cell, hops.it]; rfl, by rw [g.it.i.op.1.cell, hops.it]; rfl, by rw [g.it.i.op.1.cell, hops.it]; rfl, by rw [g.it.i.op.1.cell, hops.it]; rfl, by rw [g.it.i.op.1.cell, hops.it]; rfl⟩⟩
  have HS2 : Aside (∀ W own' rb tot', Aside (InP A w00 own w p tot' (.slice a l c) ops w1.heap.size (.slice fb LN fc) (putL rs v t f s ln ns) (.slice sa sb sc) ns rb own' W) → ∀ x, (W.setCell ⟨w.heap.size + 1 + 1, 0, none⟩ x).cell? ⟨w1.heap.size, 0, none⟩ = some (.slice fb LN fc) ∧ (W.setCell ⟨w.heap.size + 1 + 1, 0, none⟩ x).cell? ⟨w.heap.size + 1, 1, none⟩ = some (.int .u8 v) ∧ (W.setCell ⟨w.heap.size + 1 + 1, 0, none⟩ x).cell? ⟨w.heap.size + 1, 2, none⟩ = some (.int .u8 t) ∧ (W.setCell ⟨w.heap.size + 1 + 1, 0, none⟩ x).cell? ⟨w.heap.size + 1, 3, none⟩ = some (.int .u16 f) ∧ (W.setCell ⟨w.heap.size + 1 + 1, 0, none⟩ x).cell? ⟨w.heap.size + 1, 4, none⟩ = some (.int .u32 s) ∧ (W.setCell ⟨w.heap.size + 1 + 1, 0, none⟩ x).cell? ⟨w.heap.size + 1, 5, none⟩ = some (.int .u32 ln) ∧ (W.setCell ⟨w.heap.size + 1 + 1, 0, none⟩ x).cell? ⟨w.heap.size + 1, 6, none⟩ = some (.slice sa sb sc)) := by
    refine ⟨fun W own' rb tot' g x => ?_⟩
    have e1 := g.it.b.1.setOther ⟨w.heap.size + 1 + 1, 0, none⟩ x HT8.it
    have e2 := g.it.i.op.1.setOther ⟨w.heap.size + 1 + 1, 0, none⟩ x (show w.heap.size + 1 ≠ w.heap.size + 1 + 1 by omega)
    exact ⟨by rw [e1.cell]; rfl, by rw [e2.cell, hops.it]; rfl, by rw [e2.cell, hops.it]; rfl, by rw [e2.cell, hops.it]; rfl, by rw [e2.cell, hops.it]; rfl, by rw [e2.cell, hops.it]; rfl, by rw [e2.cell, hops.it]; rfl⟩
  go_region_held_law (fun w' => w'.cell? ⟨w1.heap.size, 0, none⟩ = some (.slice fb LN fc) ∧ w'.cell? ⟨w.heap.size + 1, 1, none⟩ = some (.int .u8 v) ∧ w'.cell? ⟨w.heap.size + 1, 2, none⟩ = some (.int .u8 t) ∧ w'.cell? ⟨w.heap.size + 1, 3, none⟩ = some (.int .u16 f) ∧ w'.cell? ⟨w.heap.size + 1, 4, none⟩ = some (.int .u32 s) ∧ w'.cell? ⟨w.heap.size + 1, 5, none⟩ = some (.int .u32 ln) ∧ w'.cell? ⟨w.heap.size + 1, 6, none⟩ = some (.slice sa sb sc))
    (first | exact HS.it _ _ _ _ (by assumption) | exact HS2.it _ _ _ _ (by assumption) _) (first
    | (go_at_call 10; refine (code_p X4.it.2 G4).mono ?_; rintro e w5 ⟨rfl, G5⟩; have d1 := (InP.cells G5).1; have d2 := (InP.cells G5).2)
    | (go_at_call 11; refine (PP.it _ _ _ _ _ _ _ X3).mono ?_; rintro e w4 ⟨ev, own4, rfl, X4⟩; have G4 := Aside.mk X4.it.1)
    | (go_at_call 16; refine (CP.it _ _ _ _ _ _ (by assumption)).mono ?_; rintro e w3 ⟨d3, rfl, X3⟩; have G3 := Aside.mk X3.it.1))
  all_goals
    go_wp2
    obtain ⟨r0, X⟩ := ended6 (rs' := putL rs v t f s ln ns) (by omega) G5.it.i.buf G5.it.r G5.it.i.sn G5.it.i.res rfl
    refine bodyPost_ret (v := .tuple #[.agg #[.slice fb LN fc], .bool true]) (by simp [results, Tryd.results6, go_sem, r0]) rfl ?_
    exact ⟨_, _, _, _, rfl, X⟩
end
end Go.Proofs.YtfphoaphdfhhiaaDoor
