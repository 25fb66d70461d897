/-
  package frame: Encode; the document's Encode.
-/
import Derived.Test.YtjhjhmhhnifgmaaDoorNumHolds
import Derived.Test.YtjhjhmhhnifgmaaDoorOwnB
import Derived.Test.YtjhjhmhhnifgmaaDoorFrameA
namespace Go.Proofs.YtjhjhmhhnifgmaaDoor
open Go.RowKit

/-- a header's twelve bytes -/
def enc (v t f s l : Int) : List Int := (([v, t] ++ be2 f) ++ be4 s) ++ be4 l
theorem enc_length (v t f s l : Int) : (enc v t f s l).length = 12 := rfl

theorem rd_new (w : World) (ns : List Int) (n : Nat) (hn : ns.length = n) : Rd (w.alloc (.cells (ns.map (Value.int .u8)).toArray 5)) (.slice (some ⟨w.heap.size, 0, none⟩) n n) ns := by
  subst hn
  have := reads_mark Nowhere w 5 (bv ns) (0, 0) (fun x => x)
  rw [bv_length] at this
  exact ⟨this, fun l c e => by cases e⟩
theorem own_new {B : Nat} (w : World) (ns : List Int) (n : Nat) (hn : ns.length = n) (hB : B ≤ w.heap.size) (hm : n ≤ maxLen) : OwnB B (w.alloc (.cells (ns.map (Value.int .u8)).toArray 5)) (.slice (some ⟨w.heap.size, 0, none⟩) n n) ns := by
  subst hn
  refine ⟨by rw [bv_length, Nat.mul_one], .inr ⟨w.heap.size, _, _, rfl, hB, heap_alloc_new w _, Nat.le_refl _, hm, by simp, ?_⟩⟩
  simp only [bv]
  rw [List.take_of_length_le (by simp)]
/-- the box's last three cells -/
structure BoxAt (p : Nat) (f s l : Int) (w : World) : Prop where
  f : w.cell? ⟨p, 2, none⟩ = some (.int .u16 f)
  s : w.cell? ⟨p, 3, none⟩ = some (.int .u32 s)
  l : w.cell? ⟨p, 4, none⟩ = some (.int .u32 l)
theorem BoxAt.later {p B : Nat} {f s l : Int} {w w' : World} (h : BoxAt p f s l w) (hb : Below B w w') (hp : p < B) : BoxAt p f s l w' :=
  ⟨(hb.cell (p := ⟨p, 2, none⟩) hp).trans h.f, (hb.cell (p := ⟨p, 3, none⟩) hp).trans h.s, (hb.cell (p := ⟨p, 4, none⟩) hp).trans h.l⟩
theorem BoxAt.new (w : World) (v t f s l : Int) : BoxAt w.heap.size f s l (w.alloc (hbox v t f s l)) := by
  refine ⟨?_, ?_, ?_⟩ <;> simp [World.cell?, heap_alloc]

theorem OwnB.subst {B : Nat} {w : World} {v : Value} {ns : List Int} (h : OwnB B w v ns) : ∃ p c, v = .slice p ns.length c ∧ Aside (OwnB B w (.slice p ns.length c) ns) := by
  obtain ⟨p, c, rfl⟩ := h.shape
  exact ⟨p, c, rfl, ⟨h⟩⟩
end Go.Proofs.YtjhjhmhhnifgmaaDoor
