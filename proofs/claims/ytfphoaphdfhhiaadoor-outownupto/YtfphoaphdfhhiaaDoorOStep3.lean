/-
  culvertlaw06.step: Len, and what calls nothing
-/
import Derived.Test.YtfphoaphdfhhiaaDoorOStep0
namespace Go.Proofs.YtfphoaphdfhhiaaDoor
open Go.RowKit

section
variable {own own' own1 : Nat → Nat} {w w' w1 W : World} {p tot : Nat} {rs : List (List Int)}

def InR (own0 : Nat → Nat) (w0 : World) (p : Nat) (rs : List (List Int)) (tot : Nat) (fv : Value) (ops : List Value) (own : Nat → Nat) (W : World) : Prop := In6 own0 w0 p rs tot fv fv ops own W ∧ RdL own 3 W fv rs
theorem InR.quiet {own0 : Nat → Nat} {w0 : World} {fv : Value} {ops : List Value} (h : InR own0 w0 p rs tot fv ops own W) (hk : Keeps Nowhere W w') : InR own0 w0 p rs tot fv ops own w' := ⟨h.1.quiet hk, h.2.quiet hk⟩
theorem InR.cells {own0 : Nat → Nat} {w0 : World} {fv : Value} {ops : List Value} (h : Aside (InR own0 w0 p rs tot fv ops own W)) : W.cell? ⟨w0.heap.size, 0, none⟩ = some fv ∧ W.cell? ⟨w0.heap.size + 1 + 1, 0, none⟩ = some (.slice none 0 0) ∧ W.frozen? ⟨w0.heap.size + 1 + 1, 0, none⟩ = false :=
  ⟨by rw [h.it.1.box.1.cell]; rfl, by rw [h.it.1.res.1.cell]; rfl, h.it.1.res.1.frozen 0⟩
theorem InR.held {own0 : Nat → Nat} {w0 : World} {fv : Value} {ops : List Value} (h : Aside (InR own0 w0 p rs tot fv ops own W)) : W.cell? ⟨w0.heap.size, 0, none⟩ = some fv := by rw [h.it.1.box.1.cell]; rfl
theorem InR.heldS {own0 : Nat → Nat} {w0 : World} {fv : Value} {ops : List Value} {x : Option Addr} {y z : Nat} (h : Aside (InR own0 w0 p rs tot fv ops own W)) : (W.setCell ⟨w0.heap.size + 1 + 1, 0, none⟩ (.slice x y z)).cell? ⟨w0.heap.size, 0, none⟩ = some fv := by
  have hb := h.it.1.box.1.setOther ⟨w0.heap.size + 1 + 1, 0, none⟩ (.slice x y z) (show w0.heap.size ≠ w0.heap.size + 1 + 1 by omega)
  rw [hb.cell]; rfl

set_option maxHeartbeats 2000000 in
theorem step_none6 (a : Option Addr) (l c : Nat) (h : BufO own 1 2 w p rs tot) (hr : RdL own 3 w (.slice a l c) rs) (z : OpV6) (hsl : ∃ a l c, z.sl = .slice a l c) (hz : z.kind ≠ 1 ∧ z.kind ≠ 2 ∧ z.kind ≠ 3 ∧ z.kind ≠ 4) :
    Calls Tryd.prog 6 #[ptr p, .agg #[.slice a l c], .agg z.cells.toArray] w fun e w' => Stepped6 own w p rs tot e w' := by
  obtain ⟨kind, ⟨v, t, f, s, ln⟩, sl, ns, n⟩ := z
  obtain ⟨sa, sb, sc, rfl⟩ := hsl
  obtain ⟨z1, z2, z3, z4⟩ := hz
  simp only at z1 z2 z3 z4
  obtain ⟨W0, hW0⟩ : ∃ W0, W0 = ((w.alloc (.cells #[.slice a l c] 28)).alloc (.cells #[.int .i64 kind, .int .u8 v, .int .u8 t, .int .u16 f, .int .u32 s, .int .u32 ln, .slice sa sb sc, .int .i64 n] 39)).alloc (.cells #[.slice none 0 0] 28) := ⟨_, rfl⟩
  have G0 : Aside (InR own w p rs tot (.slice a l c) [.int .i64 kind, .int .u8 v, .int .u8 t, .int .u16 f, .int .u32 s, .int .u32 ln, .slice sa sb sc, .int .i64 n] (give own w.heap.size 0) W0) := by
    have h1 := began6 (fv := .slice a l c) (ops := [.int .i64 kind, .int .u8 v, .int .u8 t, .int .u16 f, .int .u32 s, .int .u32 ln, .slice sa sb sc, .int .i64 n]) w h W0 hW0
    exact ⟨h1, hr.sn h1.sn ot3⟩
  have o0 : W0.cell? ⟨w.heap.size + 1, 0, none⟩ = some (.int .i64 kind) := by rw [G0.it.1.op.1.cell]; rfl
  obtain ⟨d0, d1, d2⟩ := InR.cells G0
  show Calls Tryd.prog 6 #[ptr p, .agg #[.slice a l c], .agg #[.int .i64 kind, .int .u8 v, .int .u8 t, .int .u16 f, .int .u32 s, .int .u32 ln, .slice sa sb sc, .int .i64 n]] w _
  clear h hr
  go_enter Tryd.func6, Tryd.ntmps6
  go_upto_region 1 with fail
  rw [← hW0]
  clear hW0
  go_wp2
  obtain ⟨r0, X⟩ := ended6 (rs' := rs) (by omega) G0.it.1.buf G0.it.2 G0.it.1.sn G0.it.1.res rfl
  refine bodyPost_ret (v := .tuple #[.agg #[.slice a l c], .bool true]) (by simp [results, Tryd.results6, go_sem, r0]) rfl ?_
  exact ⟨_, _, _, _, rfl, X⟩
set_option maxRecDepth 20000 in
set_option maxHeartbeats 4000000 in
theorem step_len6 (a : Option Addr) (l c : Nat) (h : BufO own 1 2 w p rs tot) (hr : RdL own 3 w (.slice a l c) rs) (z : OpV6) (hsl : ∃ a l c, z.sl = .slice a l c) (hz : z.kind = 3) (htot : tot ≤ 4398046511103) :
    Calls Tryd.prog 6 #[ptr p, .agg #[.slice a l c], .agg z.cells.toArray] w fun e w' => Stepped6 own w p rs tot e w' := by
  obtain ⟨kind, ⟨v, t, f, s, ln⟩, sl, ns, n⟩ := z
  obtain ⟨sa, sb, sc, rfl⟩ := hsl
  simp only at hz
  subst hz
  obtain ⟨W0, hW0⟩ : ∃ W0, W0 = ((w.alloc (.cells #[.slice a l c] 28)).alloc (.cells #[.int .i64 3, .int .u8 v, .int .u8 t, .int .u16 f, .int .u32 s, .int .u32 ln, .slice sa sb sc, .int .i64 n] 39)).alloc (.cells #[.slice none 0 0] 28) := ⟨_, rfl⟩
  obtain ⟨own0, ho0⟩ : ∃ own0, Aside (own0 = give own w.heap.size 0) := ⟨_, ⟨rfl⟩⟩
  obtain ⟨ops, hops⟩ : ∃ ops : List Value, Aside (ops = [.int .i64 3, .int .u8 v, .int .u8 t, .int .u16 f, .int .u32 s, .int .u32 ln, .slice sa sb sc, .int .i64 n]) := ⟨_, ⟨rfl⟩⟩
  have G0 : Aside (InR own w p rs tot (.slice a l c) ops own0 W0) := by
    rw [ho0.it]
    have h1 := began6 (fv := .slice a l c) (ops := ops) w h W0 (by rw [hops.it]; exact hW0)
    exact ⟨h1, hr.sn h1.sn ot3⟩
  have o0 : W0.cell? ⟨w.heap.size + 1, 0, none⟩ = some (.int .i64 3) := by rw [G0.it.1.op.1.cell, hops.it]; rfl
  have hl : l = rs.length := by obtain ⟨_, _, e, _⟩ := hr.at; injection e
  have hfl := Nat.le_trans h.flat_le htot
  have hln := Nat.le_trans h.len_le htot
  have L1 := Aside.mk (fun W (g : Aside (InR own w p rs tot (.slice a l c) ops own0 W)) => (lenB g.it.1.buf).mono (fun e w' (x : e = .returned (.int .i64 rs.flatten.length) ∧ Aside (Keeps Nowhere W w')) => And.intro x.1 (Aside.mk (g.it.quiet x.2.it))))
  have L2 := Aside.mk (fun W (g : Aside (InR own w p rs tot (.slice a l c) ops own0 W)) => (refLen6 g.it.2 hfl hln).mono (fun e w' (x : e = .returned (.int .i64 rs.flatten.length) ∧ Aside (Keeps Nowhere W w')) => And.intro x.1 (Aside.mk (g.it.quiet x.2.it))))
  have L3 := Aside.mk (fun W (g : Aside (InR own w p rs tot (.slice a l c) ops own0 W)) => (framesB g.it.1.buf).mono (fun e w' (x : e = .returned (.int .i64 rs.length) ∧ Aside (Keeps Nowhere W w')) => And.intro x.1 (Aside.mk (g.it.quiet x.2.it))))
  rw [← hl] at L3
  obtain ⟨T, hT⟩ : ∃ T, T = rs.flatten.length := ⟨_, rfl⟩
  rw [← hT] at L1 L2
  obtain ⟨d0, d1, d2⟩ := InR.cells G0
  show Calls Tryd.prog 6 #[ptr p, .agg #[.slice a l c], .agg #[.int .i64 3, .int .u8 v, .int .u8 t, .int .u16 f, .int .u32 s, .int .u32 ln, .slice sa sb sc, .int .i64 n]] w _
  clear h hr hT hl hfl hln htot
  go_enter Tryd.func6, Tryd.ntmps6
  go_upto_region 1 with fail
  rw [← hW0]
  clear hW0
  go_wp2_with fail
  clear o0
  have G1 : Aside (InR own w p rs tot (.slice a l c) ops own0 W0.drew) := ⟨G0.it.quiet (Keeps.refl _ _).drew⟩
  clear d0 d1 d2
  go_region_held_law (fun w' => w'.cell? ⟨w.heap.size, 0, none⟩ = some (.slice a l c)) (first | exact InR.held (by assumption) | exact InR.heldS (by assumption)) (first
    | (go_at_call 14; refine (L3.it _ (by assumption)).mono ?_; rintro e w5 ⟨rfl, G5⟩; have d1 := (InR.cells G5).2.1; have d2 := (InR.cells G5).2.2)
    | (go_at_call 17; refine (L2.it _ (by assumption)).mono ?_; rintro e w4 ⟨rfl, G4⟩)
    | (go_at_call 13; refine (L1.it _ (by assumption)).mono ?_; rintro e w3 ⟨rfl, G3⟩))
  go_wp2
  obtain ⟨r0, X⟩ := ended6 (rs' := rs) (by omega) G5.it.1.buf G5.it.2 G5.it.1.sn G5.it.1.res rfl
  refine bodyPost_ret (v := .tuple #[.agg #[.slice a l c], .bool true]) (by simp [results, Tryd.results6, go_sem, r0]) rfl ?_
  exact ⟨_, _, _, _, rfl, X⟩
end
end Go.Proofs.YtfphoaphdfhhiaaDoor
