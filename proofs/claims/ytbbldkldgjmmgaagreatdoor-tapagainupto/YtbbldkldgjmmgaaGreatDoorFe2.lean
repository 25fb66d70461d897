import Derived.Test.YtbbldkldgjmmgaaGreatDoorTFrameB
import Derived.Test.YtbbldkldgjmmgaaGreatDoorTFrameC
import Derived.Test.YtbbldkldgjmmgaaGreatDoorTFrameD
/-
  A header in the call's own world; Check over it.
-/
namespace Go.Proofs.YtbbldkldgjmmgaaGreatDoor
open Go.RowKit

/-- a header's five cells in block p -/
def HB (p : Nat) (v t f s l : Int) (w : World) : Prop :=
  w.cell? ⟨p, 0, none⟩ = some (.int .u8 v) ∧ w.cell? ⟨p, 1, none⟩ = some (.int .u8 t) ∧ w.cell? ⟨p, 2, none⟩ = some (.int .u16 f) ∧ w.cell? ⟨p, 3, none⟩ = some (.int .u32 s) ∧ w.cell? ⟨p, 4, none⟩ = some (.int .u32 l)
theorem HB.later {p : Nat} {v t f s l : Int} {w w' : World} (h : HB p v t f s l w) (hb : Below w.heap.size w w') : HB p v t f s l w' := by
  have hp : p < w.heap.size := cell_lt h.1
  exact ⟨(hb.cell (p := ⟨p, 0, none⟩) hp).trans h.1, (hb.cell (p := ⟨p, 1, none⟩) hp).trans h.2.1, (hb.cell (p := ⟨p, 2, none⟩) hp).trans h.2.2.1, (hb.cell (p := ⟨p, 3, none⟩) hp).trans h.2.2.2.1, (hb.cell (p := ⟨p, 4, none⟩) hp).trans h.2.2.2.2⟩
theorem HB.new (w : World) (v t f s l : Int) : HB w.heap.size v t f s l (w.alloc (hbox v t f s l)) := by
  refine ⟨?_, ?_, ?_, ?_, ?_⟩ <;> simp [World.cell?, heap_alloc]

/-- the law's world: the sentinels and the table lie there, and what was in w is as it was -/
structure At4 (A : Nat → Addr) (w w' : World) : Prop where
  s : SentO A w'
  l : Lawful w'
  b : Below w.heap.size w w'
theorem At4.later {A : Nat → Addr} {w w1 w2 : World} (h : At4 A w w1) (hb : Below w1.heap.size w1 w2) : At4 A w w2 :=
  ⟨h.s.later hb, h.l.later hb, h.b.trans (hb.mono h.b.size)⟩

/-- Check and the document's Check, in the law's world, a header's box kept -/
structure Boxed (A : Nat → Addr) (w : World) (p : Nat) (v t f s l : Int) (w' : World) : Prop where
  a : At4 A w w'
  h : HB p v t f s l w'
theorem Boxed.later {A : Nat → Addr} {w w1 w2 : World} {p : Nat} {v t f s l : Int} (h : Boxed A w p v t f s l w1) (hb : Below w1.heap.size w1 w2) : Boxed A w p v t f s l w2 := ⟨h.a.later hb, h.h.later hb⟩
theorem Boxed.cells {A : Nat → Addr} {w w1 : World} {p : Nat} {v t f s l : Int} (h : Aside (Boxed A w p v t f s l w1)) : HB p v t f s l w1 := h.it.h

theorem check_b {A : Nat → Addr} {w : World} {p : Nat} (v t f s l most : Int) (ht0 : 0 ≤ t) (ht1 : t ≤ 255) (hf : 0 ≤ f) (hl0 : 0 ≤ l) (hl1 : l ≤ 4294967295) (W : World) (h : Aside (Boxed A w p v t f s l W)) :
    Calls Tryz.prog 7 #[hdr v t f s l, .int .i64 most] W fun e w' => ∃ ev, e = .returned ev ∧ Aside (Coded A ev (chk v t f s l most)) ∧ Aside (Boxed A w p v t f s l w') :=
  (check_any v t f s l most W h.it.a.s h.it.a.l ht0 ht1 hf hl0 hl1).mono (by rintro e w' ⟨⟨ev, rfl, hv⟩, hb⟩; exact ⟨ev, rfl, ⟨hv⟩, ⟨h.it.later hb⟩⟩)
end Go.Proofs.YtbbldkldgjmmgaaGreatDoor

/-
  FrameChecks.
-/
namespace Go.Proofs.YtbbldkldgjmmgaaGreatDoor
open Go.RowKit

end Go.Proofs.YtbbldkldgjmmgaaGreatDoor

