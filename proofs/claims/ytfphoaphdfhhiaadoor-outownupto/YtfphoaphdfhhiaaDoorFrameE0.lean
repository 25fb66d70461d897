/-
  A header in the call's own world; Check over it.
-/
import Derived.Test.YtfphoaphdfhhiaaDoorFrameB
import Derived.Test.YtfphoaphdfhhiaaDoorFrameC
namespace Go.Proofs.YtfphoaphdfhhiaaDoor
open Go.RowKit

/-- a header's five cells in block p -/
def HB (p : Nat) (v t f s l : Int) (w : World) : Prop :=
  w.cell? ⟨p, 0, none⟩ = some (.int .u8 v) ∧ w.cell? ⟨p, 1, none⟩ = some (.int .u8 t) ∧ w.cell? ⟨p, 2, none⟩ = some (.int .u16 f) ∧ w.cell? ⟨p, 3, none⟩ = some (.int .u32 s) ∧ w.cell? ⟨p, 4, none⟩ = some (.int .u32 l)
theorem HB.later {p : Nat} {v t f s l : Int} {w w' : World} (h : HB p v t f s l w) (hb : Below w.heap.size w w') : HB p v t f s l w' := by
  have hp : p < w.heap.size := cell_lt h.1
  exact ⟨(hb.cell (p := ⟨p, 0, none⟩) hp).trans h.1, (hb.cell (p := ⟨p, 1, none⟩) hp).trans h.2.1, (hb.cell (p := ⟨p, 2, none⟩) hp).trans h.2.2.1, (hb.cell (p := ⟨p, 3, none⟩) hp).trans h.2.2.2.1, (hb.cell (p := ⟨p, 4, none⟩) hp).trans h.2.2.2.2⟩
theorem HB.new (w : World) (v t f s l : Int) : HB w.heap.size v t f s l (w.alloc (hbox v t f s l)) := by
  refine ⟨?_, ?_, ?_, ?_, ?_⟩ <;> simp [World.cell?, heap_alloc]

end Go.Proofs.YtfphoaphdfhhiaaDoor
