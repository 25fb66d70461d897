/-
  package frame: Encode; the document's Encode.
-/
import Derived.Test.YtbbldkldgjmmgaaGreatDoorNms
import Derived.Test.YtbbldkldgjmmgaaGreatDoorTFrameA
namespace Go.Proofs.YtbbldkldgjmmgaaGreatDoor
open Go.RowKit

/-- a header's twelve bytes -/
def enc (v t f s l : Int) : List Int := (([v, t] ++ be2 f) ++ be4 s) ++ be4 l
theorem enc_length (v t f s l : Int) : (enc v t f s l).length = 12 := rfl

theorem rd_new (w : World) (ns : List Int) (n : Nat) (hn : ns.length = n) : Rd (w.alloc (.cells (ns.map (Value.int .u8)).toArray 5)) (.slice (some ⟨w.heap.size, 0, none⟩) n n) ns := by
  subst hn
  have := reads_mark Nowhere w 5 (bv ns) (0, 0) (fun x => x)
  rw [bv_length] at this
  exact ⟨this, fun l c e => by cases e⟩
theorem own_new {B : Nat} (w : World) (ns : List Int) (n : Nat) (hn : ns.length = n) (hB : B ≤ w.heap.size) (hm : n ≤ maxLen) : OwnB B (w.alloc (.cells (ns.map (Value.int .u8)).toArray 5)) (.slice (some ⟨w.heap.size, 0, none⟩) n n) ns := by
  subst hn
  refine ⟨by rw [bv_length, Nat.mul_one], .inr ⟨w.heap.size, _, _, rfl, hB, heap_alloc_new w _, Nat.le_refl _, hm, by simp, ?_⟩⟩
  simp only [bv]
  rw [List.take_of_length_le (by simp)]
theorem bytes16_r (v : Int) (w : World) (h0 : 0 ≤ v) (h1 : v ≤ 65535) :
    Calls Tryz.prog 92 #[.int .u16 v] w fun e w' => ∃ s, e = .returned s ∧ Aside (Rd w' s (be2 v)) ∧ Below w.heap.size w w' := by
  refine (bytes16_any v w h0 h1).mono ?_
  rintro e w' ⟨rfl, rfl⟩
  have h := rd_new (w.alloc (.cells #[.int .u8 (v / 256), .int .u8 (v % 256)] 184)) (be2 v) 2 rfl
  have hz : (w.alloc (.cells #[.int .u8 (v / 256), .int .u8 (v % 256)] 184)).heap.size = w.heap.size + 1 := by simp
  rw [hz] at h
  exact ⟨_, rfl, ⟨h⟩, alloc2_below _ _ _⟩
theorem bytes32_r (v : Int) (w : World) (h0 : 0 ≤ v) (h1 : v ≤ 4294967295) :
    Calls Tryz.prog 93 #[.int .u32 v] w fun e w' => ∃ s, e = .returned s ∧ Aside (Rd w' s (be4 v)) ∧ Below w.heap.size w w' := by
  refine (bytes32_any v w h0 h1).mono ?_
  rintro e w' ⟨rfl, rfl⟩
  have h := rd_new (w.alloc (.cells #[.int .u8 (v / 16777216), .int .u8 (v / 65536 % 256), .int .u8 (v / 256 % 256), .int .u8 (v % 256)] 185)) (be4 v) 4 rfl
  have hz : (w.alloc (.cells #[.int .u8 (v / 16777216), .int .u8 (v / 65536 % 256), .int .u8 (v / 256 % 256), .int .u8 (v % 256)] 185)).heap.size = w.heap.size + 1 := by simp
  rw [hz] at h
  exact ⟨_, rfl, ⟨h⟩, alloc2_below _ _ _⟩
/-- the box's last three cells -/
structure BoxAt (p : Nat) (f s l : Int) (w : World) : Prop where
  f : w.cell? ⟨p, 2, none⟩ = some (.int .u16 f)
  s : w.cell? ⟨p, 3, none⟩ = some (.int .u32 s)
  l : w.cell? ⟨p, 4, none⟩ = some (.int .u32 l)
theorem BoxAt.later {p B : Nat} {f s l : Int} {w w' : World} (h : BoxAt p f s l w) (hb : Below B w w') (hp : p < B) : BoxAt p f s l w' :=
  ⟨(hb.cell (p := ⟨p, 2, none⟩) hp).trans h.f, (hb.cell (p := ⟨p, 3, none⟩) hp).trans h.s, (hb.cell (p := ⟨p, 4, none⟩) hp).trans h.l⟩
theorem BoxAt.new (w : World) (v t f s l : Int) : BoxAt w.heap.size f s l (w.alloc (hbox v t f s l)) := by
  refine ⟨?_, ?_, ?_⟩ <;> simp [World.cell?, heap_alloc]

set_option maxRecDepth 100000 in
set_option maxHeartbeats 2000000 in
theorem encode_any (v t f s l : Int) (w : World) (hf0 : 0 ≤ f) (hf1 : f ≤ 65535) (hs0 : 0 ≤ s) (hs1 : s ≤ 4294967295) (hl0 : 0 ≤ l) (hl1 : l ≤ 4294967295) :
    Calls Tryz.prog 69 #[hdr v t f s l] w fun e w' => ∃ x, e = .returned x ∧ Aside (OwnB w.heap.size w' x (enc v t f s l)) ∧ Below w.heap.size w w' := by
  have hmk : ∀ w, (Instr.makeSlice 32 (.int .i64 0) (.int .i64 12)).run Tryz.prog w = .ok (.slice (some ⟨w.heap.size, 0, none⟩) 0 12) (w.alloc (.cells #[.int .u8 0, .int .u8 0, .int .u8 0, .int .u8 0, .int .u8 0, .int .u8 0, .int .u8 0, .int .u8 0, .int .u8 0, .int .u8 0, .int .u8 0, .int .u8 0] 5)) := fun _ => by kernel_rfl
  go_enter Tryz.func69, Tryz.ntmps69
  go_wp2_with (first
    | (go_at_call 92; refine (bytes16_any _ _ (by assumption) (by assumption)).mono ?_; rintro e w1 ⟨rfl, rfl⟩)
    | (go_at_call 93; refine (bytes32_any _ _ (by assumption) (by assumption)).mono ?_; rintro e w1 ⟨rfl, rfl⟩))
  go_ret
  refine ⟨_, rfl, ⟨?_⟩, ?_⟩
  · have h := own_new (B := w.heap.size) (w.alloc (hbox v t f s l)) (enc v t f s l) 12 rfl (by simp) (by decide)
    have hz : (w.alloc (hbox v t f s l)).heap.size = w.heap.size + 1 := by simp
    rw [hz] at h
    refine h.later ?_
    repeat first | exact Below.refl _ _ | refine Below.alloc ?_ (by simp <;> omega) _
  · repeat first | exact Below.refl _ _ | refine Below.alloc ?_ (by simp <;> omega) _

theorem OwnB.subst {B : Nat} {w : World} {v : Value} {ns : List Int} (h : OwnB B w v ns) : ∃ p c, v = .slice p ns.length c ∧ Aside (OwnB B w (.slice p ns.length c) ns) := by
  obtain ⟨p, c, rfl⟩ := h.shape
  exact ⟨p, c, rfl, ⟨h⟩⟩
end Go.Proofs.YtbbldkldgjmmgaaGreatDoor
