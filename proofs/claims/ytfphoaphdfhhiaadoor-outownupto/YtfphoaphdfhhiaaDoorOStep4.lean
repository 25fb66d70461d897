/-
  culvertlaw06.step: Clear
-/
import Derived.Test.YtfphoaphdfhhiaaDoorOStep3
namespace Go.Proofs.YtfphoaphdfhhiaaDoor
open Go.RowKit

section
variable {own own' own1 : Nat → Nat} {w w' w1 W : World} {p tot : Nat} {rs rb : List (List Int)}

/-- the buffer holds rb, the document's rs -/
def InC (own0 : Nat → Nat) (w0 : World) (p : Nat) (tot : Nat) (fv : Value) (ops : List Value) (rs rb : List (List Int)) (own : Nat → Nat) (W : World) : Prop := In6 own0 w0 p rb tot fv fv ops own W ∧ RdL own 3 W fv rs
section
variable {own0 : Nat → Nat} {w0 : World} {fv : Value} {ops : List Value}
theorem InC.quiet (h : InC own0 w0 p tot fv ops rs rb own W) (hk : Keeps Nowhere W w') : InC own0 w0 p tot fv ops rs rb own w' := ⟨h.1.quiet hk, h.2.quiet hk⟩
theorem InC.cells (h : Aside (InC own0 w0 p tot fv ops rs rb own W)) : W.cell? ⟨w0.heap.size, 0, none⟩ = some fv ∧ W.cell? ⟨w0.heap.size + 1 + 1, 0, none⟩ = some (.slice none 0 0) ∧ W.frozen? ⟨w0.heap.size + 1 + 1, 0, none⟩ = false :=
  ⟨by rw [h.it.1.box.1.cell]; rfl, by rw [h.it.1.res.1.cell]; rfl, h.it.1.res.1.frozen 0⟩
theorem InC.held (h : Aside (InC own0 w0 p tot fv ops rs rb own W)) : W.cell? ⟨w0.heap.size, 0, none⟩ = some fv := (InC.cells h).1
theorem InC.heldS {x : Option Addr} {y z : Nat} (h : Aside (InC own0 w0 p tot fv ops rs rb own W)) : (W.setCell ⟨w0.heap.size + 1 + 1, 0, none⟩ (.slice x y z)).cell? ⟨w0.heap.size, 0, none⟩ = some fv := by
  have hb := h.it.1.box.1.setOther ⟨w0.heap.size + 1 + 1, 0, none⟩ (.slice x y z) (show w0.heap.size ≠ w0.heap.size + 1 + 1 by omega)
  rw [hb.cell]; rfl
theorem clear_c (h : Aside (InC own0 w0 p tot fv ops rs rb own W)) : Calls Tryd.prog 18 #[ptr p] W fun e w' => ∃ own', e = .returned (.int .i64 rb.flatten.length) ∧ Aside (InC own0 w0 p tot fv ops rs [] own' w') := by
  refine (clearB (by decide) h.it.1.buf).mono ?_
  rintro e w' ⟨own', rfl, X⟩
  have s : Sn OneTwo own W own' w' := X.it.2.mono (fun _ e => .inl e)
  exact ⟨own', rfl, ⟨h.it.1.call X.it.1 s, h.it.2.sn s ot3⟩⟩
theorem len_c (h : Aside (InC own0 w0 p tot fv ops rs rb own W)) (hfl : rs.flatten.length ≤ 4398046511103) (hln : rs.length ≤ 4398046511103) : Calls Tryd.prog 17 #[.agg #[fv]] W fun e w' => e = .returned (.int .i64 rs.flatten.length) ∧ Aside (InC own0 w0 p tot fv ops rs rb own w') := by
  refine (refLen6 h.it.2 hfl hln).mono ?_
  rintro e w' ⟨rfl, k⟩
  exact ⟨rfl, ⟨h.it.quiet k.it⟩⟩
end
set_option maxRecDepth 20000 in
set_option maxHeartbeats 4000000 in
theorem step_clear6 (a : Option Addr) (l c : Nat) (h : BufO own 1 2 w p rs tot) (hr : RdL own 3 w (.slice a l c) rs) (z : OpV6) (hsl : ∃ a l c, z.sl = .slice a l c) (hz : z.kind = 4) (htot : tot ≤ 4398046511103) :
    Calls Tryd.prog 6 #[ptr p, .agg #[.slice a l c], .agg z.cells.toArray] w fun e w' => Stepped6 own w p [] tot e w' := by
  obtain ⟨kind, ⟨v, t, f, s, ln⟩, sl, ns, n⟩ := z
  obtain ⟨sa, sb, sc, rfl⟩ := hsl
  simp only at hz
  subst hz
  obtain ⟨W0, hW0⟩ : ∃ W0, W0 = ((w.alloc (.cells #[.slice a l c] 28)).alloc (.cells #[.int .i64 4, .int .u8 v, .int .u8 t, .int .u16 f, .int .u32 s, .int .u32 ln, .slice sa sb sc, .int .i64 n] 39)).alloc (.cells #[.slice none 0 0] 28) := ⟨_, rfl⟩
  obtain ⟨own0, ho0⟩ : ∃ own0, Aside (own0 = give own w.heap.size 0) := ⟨_, ⟨rfl⟩⟩
  obtain ⟨ops, hops⟩ : ∃ ops : List Value, Aside (ops = [.int .i64 4, .int .u8 v, .int .u8 t, .int .u16 f, .int .u32 s, .int .u32 ln, .slice sa sb sc, .int .i64 n]) := ⟨_, ⟨rfl⟩⟩
  have G0 : Aside (InC own w p tot (.slice a l c) ops rs rs own0 W0) := by
    rw [ho0.it]
    have h1 := began6 (fv := .slice a l c) (ops := ops) w h W0 (by rw [hops.it]; exact hW0)
    exact ⟨h1, hr.sn h1.sn ot3⟩
  have o0 : W0.cell? ⟨w.heap.size + 1, 0, none⟩ = some (.int .i64 4) := by rw [G0.it.1.op.1.cell, hops.it]; rfl
  have hfl := Nat.le_trans h.flat_le htot
  have hln := Nat.le_trans h.len_le htot
  have L2 := Aside.mk (fun (own1 : Nat → Nat) rb W (g : Aside (InC own w p tot (.slice a l c) ops rs rb own1 W)) => len_c g hfl hln)
  have L1 := Aside.mk (fun (own1 : Nat → Nat) W (g : Aside (InC own w p tot (.slice a l c) ops rs rs own1 W)) => clear_c g)
  obtain ⟨T, hT⟩ : ∃ T, T = rs.flatten.length := ⟨_, rfl⟩
  rw [← hT] at L1 L2
  obtain ⟨d0, d1, d2⟩ := InC.cells G0
  show Calls Tryd.prog 6 #[ptr p, .agg #[.slice a l c], .agg #[.int .i64 4, .int .u8 v, .int .u8 t, .int .u16 f, .int .u32 s, .int .u32 ln, .slice sa sb sc, .int .i64 n]] w _
  clear h hr hT hfl hln htot
  go_enter Tryd.func6, Tryd.ntmps6
  go_upto_region 1 with fail
  rw [← hW0]
  clear hW0
  go_wp2_with fail
  clear o0
  have G1 : Aside (InC own w p tot (.slice a l c) ops rs rs own0 W0.drew) := ⟨G0.it.quiet (Keeps.refl _ _).drew⟩
  clear d0 d1 d2
  go_region_held_law (fun w' => w'.cell? ⟨w.heap.size, 0, none⟩ = some (.slice a l c)) (first | exact InC.held (by assumption) | exact InC.heldS (by assumption)) (first
    | (go_at_call 17; refine (L2.it _ _ _ (by assumption)).mono ?_; rintro e w4 ⟨rfl, G4⟩; have d1 := (InC.cells G4).2.1; have d2 := (InC.cells G4).2.2)
    | (go_at_call 18; refine (L1.it _ _ (by assumption)).mono ?_; rintro e w3 ⟨own3, rfl, G3⟩; have d1 := (InC.cells G3).2.1; have d2 := (InC.cells G3).2.2))
  go_wp2
  obtain ⟨r0, X⟩ := ended6 (rs' := []) (by omega) G4.it.1.buf (RdL.nil own3 3 w4) G4.it.1.sn G4.it.1.res rfl
  refine bodyPost_ret (v := .tuple #[.agg #[.slice none 0 0], .bool true]) (by simp [results, Tryd.results6, go_sem, r0]) rfl ?_
  exact ⟨_, _, _, _, rfl, X⟩
end
end Go.Proofs.YtfphoaphdfhhiaaDoor
