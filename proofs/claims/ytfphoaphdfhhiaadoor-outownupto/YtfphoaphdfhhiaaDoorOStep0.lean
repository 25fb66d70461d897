/-
  culvertlaw06.step: what is carried through it
-/
import Derived.Test.YtfphoaphdfhhiaaDoorRfx
import Derived.Test.YtfphoaphdfhhiaaDoorOutV
import Derived.Test.YtfphoaphdfhhiaaDoorOpx
namespace Go.Proofs.YtfphoaphdfhhiaaDoor
open Go.RowKit

section
variable {own own' own1 : Nat → Nat} {w w' w1 W : World} {p tot b opb t8 : Nat} {fv x : Value} {rs : List (List Int)} {ops : List Value} {I : Nat → Prop}

def OneTwo (k : Nat) : Prop := k = 1 ∨ k = 2
theorem ot0 : ¬ OneTwo 0 := by unfold OneTwo; omega
theorem ot3 : ¬ OneTwo 3 := by unfold OneTwo; omega
/-- what step leaves -/
def Stepped6 (own : Nat → Nat) (w : World) (p : Nat) (rs : List (List Int)) (tot : Nat) (e : Ending) (w' : World) : Prop :=
  ∃ a l c own', e = .returned (.tuple #[.agg #[.slice a l c], .bool true]) ∧ Aside (BufO own' 1 2 w' p rs tot ∧ RdL own' 3 w' (.slice a l c) rs ∧ Sn OneTwo own w own' w')
/-- within step: its boxes -/
structure In6 (own0 : Nat → Nat) (w0 : World) (p : Nat) (rs : List (List Int)) (tot : Nat) (fv fw : Value) (ops : List Value) (own : Nat → Nat) (w : World) : Prop where
  buf : BufO own 1 2 w p rs tot
  box : CellsO own 0 w w0.heap.size 28 [fv]
  op : CellsO own 0 w (w0.heap.size + 1) 39 ops
  res : CellsO own 0 w (w0.heap.size + 1 + 1) 28 [.slice none 0 0]
  sn : Sn OneTwo own0 w0 own w
theorem In6.quiet {own0 : Nat → Nat} {w0 : World} {fw : Value} (h : In6 own0 w0 p rs tot fv fw ops own w) (hk : Keeps Nowhere w w') : In6 own0 w0 p rs tot fv fw ops own w' :=
  ⟨h.buf.quiet hk, h.box.quiet hk, h.op.quiet hk, h.res.quiet hk, h.sn.trans (Sn.same hk)⟩
theorem In6.give {own0 : Nat → Nat} {w0 : World} {fw : Value} (h : In6 own0 w0 p rs tot fv fw ops own w) (s : Sn (fun _ => False) own w own' w') : In6 own0 w0 p rs tot fv fw ops own' w' :=
  ⟨h.buf.sn s (fun x => x) (fun x => x), h.box.sn s (fun x => x), h.op.sn s (fun x => x), h.res.sn s (fun x => x), h.sn.trans (s.mono (fun _ x => x.elim))⟩
theorem In6.call {own0 : Nat → Nat} {w0 : World} {fw : Value} {rs' : List (List Int)} {tot' : Nat} (h : In6 own0 w0 p rs tot fv fw ops own w) (hb : BufO own' 1 2 w' p rs' tot') (s : Sn OneTwo own w own' w') : In6 own0 w0 p rs' tot' fv fw ops own' w' :=
  ⟨hb, h.box.sn s ot0, h.op.sn s ot0, h.res.sn s ot0, h.sn.trans s⟩
/-- where step begins -/
theorem began6 (w : World) (h : BufO own 1 2 w p rs tot) (W : World) (hW : W = ((w.alloc (.cells #[fv] 28)).alloc (.cells ops.toArray 39)).alloc (.cells #[.slice none 0 0] 28)) : In6 own w p rs tot fv fv ops (give own w.heap.size 0) W := by
  have k : Keeps Nowhere w W := by rw [hW]; exact (((Keeps.refl _ _).alloc _).alloc _).alloc _
  have x1 := Cells.new w 28 [fv]
  have x2 := Cells.new (w.alloc (.cells #[fv] 28)) 39 ops
  have x3 := Cells.new ((w.alloc (.cells #[fv] 28)).alloc (.cells ops.toArray 39)) 28 [.slice none 0 0]
  simp only [World.size_alloc] at x2 x3
  have y1 := x1.later (S := Nowhere) (((Keeps.refl _ _).alloc (.cells ops.toArray 39)).alloc (.cells #[.slice none 0 0] 28)) (fun x => x)
  have y2 := x2.later (S := Nowhere) ((Keeps.refl _ _).alloc (.cells #[.slice none 0 0] 28)) (fun x => x)
  subst hW
  exact ⟨h.sn (I := fun _ => False) (Sn.quiet k 0) (fun x => x) (fun x => x), ⟨y1, give_new (Nat.le_refl _)⟩, ⟨y2, give_new (by omega)⟩, ⟨x3, give_new (by omega)⟩, Sn.quiet k 0⟩
/-- where step ends: the result's box is written -/
theorem ended6 {a : Option Addr} {l c : Nat} {rs' : List (List Int)} (hb : w.heap.size ≤ b) (h : BufO own1 1 2 w1 p rs tot) (hr : RdL own1 3 w1 (.slice a l c) rs) (hs : Sn OneTwo own w own1 w1) (hx : CellsO own1 0 w1 b 28 [x]) (hrs : rs = rs') :
    (w1.setCell ⟨b, 0, none⟩ (.slice a l c)).cell? ⟨b, 0, none⟩ = some (.slice a l c) ∧ Aside (BufO own1 1 2 (w1.setCell ⟨b, 0, none⟩ (.slice a l c)) p rs' tot ∧ RdL own1 3 (w1.setCell ⟨b, 0, none⟩ (.slice a l c)) (.slice a l c) rs' ∧ Sn OneTwo own w own1 (w1.setCell ⟨b, 0, none⟩ (.slice a l c))) := by
  subst hrs
  have hC := hx.1.setCell 0 (.slice a l c)
  have s : Sn (fun k => k = 0) own1 w1 own1 (w1.setCell ⟨b, 0, none⟩ (.slice a l c)) := ⟨fun _ _ => rfl, (Keeps.refl _ _).setCell _ _ (fun _ => hx.2)⟩
  refine ⟨by rw [hC.cell]; rfl, ⟨h.sn s (by decide) (by decide), hr.sn s (by decide), ⟨hs.agree, hs.keeps.next (S' := fun k => k = b) ((Keeps.refl _ _).setCell _ _ (fun _ => rfl)) (fun k e hk => by omega)⟩⟩⟩
end
end Go.Proofs.YtfphoaphdfhhiaaDoor
