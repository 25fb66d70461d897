/-
  package frame: Encode; the document's Encode.
-/
import Derived.Test.YtfphoaphdfhhiaaDoorNumHolds
import Derived.Test.YtfphoaphdfhhiaaDoorOwnB
import Derived.Test.YtfphoaphdfhhiaaDoorFrameA
namespace Go.Proofs.YtfphoaphdfhhiaaDoor
open Go.RowKit

/-- a header's twelve bytes -/
def enc (v t f s l : Int) : List Int := (([v, t] ++ be2 f) ++ be4 s) ++ be4 l
theorem enc_length (v t f s l : Int) : (enc v t f s l).length = 12 := rfl

theorem rd_new (w : World) (ns : List Int) (n : Nat) (hn : ns.length = n) : Rd (w.alloc (.cells (ns.map (Value.int .u8)).toArray 5)) (.slice (some ⟨w.heap.size, 0, none⟩) n n) ns := by
  subst hn
  have := reads_mark Nowhere w 5 (bv ns) (0, 0) (fun x => x)
  rw [bv_length] at this
  exact ⟨this, fun l c e => by cases e⟩
theorem own_new {B : Nat} (w : World) (ns : List Int) (n : Nat) (hn : ns.length = n) (hB : B ≤ w.heap.size) (hm : n ≤ maxLen) : OwnB B (w.alloc (.cells (ns.map (Value.int .u8)).toArray 5)) (.slice (some ⟨w.heap.size, 0, none⟩) n n) ns := by
  subst hn
  refine ⟨by rw [bv_length, Nat.mul_one], .inr ⟨w.heap.size, _, _, rfl, hB, heap_alloc_new w _, Nat.le_refl _, hm, by simp, ?_⟩⟩
  simp only [bv]
  rw [List.take_of_length_le (by simp)]
theorem bytes16_r (v : Int) (w : World) (h0 : 0 ≤ v) (h1 : v ≤ 65535) :
    Calls Tryd.prog 40 #[.int .u16 v] w fun e w' => ∃ s, e = .returned s ∧ Aside (Rd w' s (be2 v)) ∧ Below w.heap.size w w' := by
  refine (bytes16_any v w h0 h1).mono ?_
  rintro e w' ⟨rfl, rfl⟩
  have h := rd_new (w.alloc (.cells #[.int .u8 (v / 256), .int .u8 (v % 256)] 101)) (be2 v) 2 rfl
  have hz : (w.alloc (.cells #[.int .u8 (v / 256), .int .u8 (v % 256)] 101)).heap.size = w.heap.size + 1 := by simp
  rw [hz] at h
  exact ⟨_, rfl, ⟨h⟩, alloc2_below _ _ _⟩
theorem bytes32_r (v : Int) (w : World) (h0 : 0 ≤ v) (h1 : v ≤ 4294967295) :
    Calls Tryd.prog 41 #[.int .u32 v] w fun e w' => ∃ s, e = .returned s ∧ Aside (Rd w' s (be4 v)) ∧ Below w.heap.size w w' := by
  refine (bytes32_any v w h0 h1).mono ?_
  rintro e w' ⟨rfl, rfl⟩
  have h := rd_new (w.alloc (.cells #[.int .u8 (v / 16777216), .int .u8 (v / 65536 % 256), .int .u8 (v / 256 % 256), .int .u8 (v % 256)] 102)) (be4 v) 4 rfl
  have hz : (w.alloc (.cells #[.int .u8 (v / 16777216), .int .u8 (v / 65536 % 256), .int .u8 (v / 256 % 256), .int .u8 (v % 256)] 102)).heap.size = w.heap.size + 1 := by simp
  rw [hz] at h
  exact ⟨_, rfl, ⟨h⟩, alloc2_below _ _ _⟩
theorem refBytes4_r (v : Int) (w : World) (h0 : 0 ≤ v) (h1 : v ≤ 4294967295) :
    Calls Tryd.prog 39 #[.int .i64 v, .int .i64 4] w fun e w' => ∃ s, e = .returned s ∧ Aside (Rd w' s (be4 v)) ∧ Below w.heap.size w w' := by
  refine (refBytes4 v w h0 h1).mono ?_
  rintro e w' ⟨rfl, rfl⟩
  have e4 : [v / 256 / 256 / 256 % 256, v / 256 / 256 % 256, v / 256 % 256, v % 256] = be4 v := by
    unfold be4
    rw [show v / 256 / 256 / 256 % 256 = v / 16777216 from by omega, show v / 256 / 256 = v / 65536 from by omega]
  have h := rd_new w [v / 256 / 256 / 256 % 256, v / 256 / 256 % 256, v / 256 % 256, v % 256] 4 rfl
  exact ⟨_, rfl, ⟨by rw [← e4]; exact h⟩, (Below.refl _ _).alloc (Nat.le_refl _) _⟩
theorem refBytes2_r (v : Int) (w : World) (h0 : 0 ≤ v) (h1 : v ≤ 65535) :
    Calls Tryd.prog 39 #[.int .i64 v, .int .i64 2] w fun e w' => ∃ s, e = .returned s ∧ Aside (Rd w' s (be2 v)) ∧ Below w.heap.size w w' := by
  refine (refBytes2 v w h0 h1).mono ?_
  rintro e w' ⟨rfl, rfl⟩
  have e2 : be2 v = [v / 256 % 256, v % 256] := by
    unfold be2
    rw [show v / 256 % 256 = v / 256 from by omega]
  have h := rd_new w [v / 256 % 256, v % 256] 2 rfl
  exact ⟨_, rfl, ⟨by rw [e2]; exact h⟩, (Below.refl _ _).alloc (Nat.le_refl _) _⟩

/-- the box's last three cells -/
structure BoxAt (p : Nat) (f s l : Int) (w : World) : Prop where
  f : w.cell? ⟨p, 2, none⟩ = some (.int .u16 f)
  s : w.cell? ⟨p, 3, none⟩ = some (.int .u32 s)
  l : w.cell? ⟨p, 4, none⟩ = some (.int .u32 l)
theorem BoxAt.later {p B : Nat} {f s l : Int} {w w' : World} (h : BoxAt p f s l w) (hb : Below B w w') (hp : p < B) : BoxAt p f s l w' :=
  ⟨(hb.cell (p := ⟨p, 2, none⟩) hp).trans h.f, (hb.cell (p := ⟨p, 3, none⟩) hp).trans h.s, (hb.cell (p := ⟨p, 4, none⟩) hp).trans h.l⟩
theorem BoxAt.new (w : World) (v t f s l : Int) : BoxAt w.heap.size f s l (w.alloc (hbox v t f s l)) := by
  refine ⟨?_, ?_, ?_⟩ <;> simp [World.cell?, heap_alloc]

set_option maxRecDepth 100000 in
set_option maxHeartbeats 2000000 in
theorem encode_any (v t f s l : Int) (w : World) (hf0 : 0 ≤ f) (hf1 : f ≤ 65535) (hs0 : 0 ≤ s) (hs1 : s ≤ 4294967295) (hl0 : 0 ≤ l) (hl1 : l ≤ 4294967295) :
    Calls Tryd.prog 36 #[hdr v t f s l] w fun e w' => ∃ x, e = .returned x ∧ Aside (OwnB w.heap.size w' x (enc v t f s l)) ∧ Below w.heap.size w w' := by
  have hmk : ∀ w, (Instr.makeSlice 35 (.int .i64 0) (.int .i64 12)).run Tryd.prog w = .ok (.slice (some ⟨w.heap.size, 0, none⟩) 0 12) (w.alloc (.cells #[.int .u8 0, .int .u8 0, .int .u8 0, .int .u8 0, .int .u8 0, .int .u8 0, .int .u8 0, .int .u8 0, .int .u8 0, .int .u8 0, .int .u8 0, .int .u8 0] 5)) := fun _ => by kernel_rfl
  go_enter Tryd.func36, Tryd.ntmps36
  go_wp2_with (first
    | (go_at_call 40; refine (bytes16_any _ _ (by assumption) (by assumption)).mono ?_; rintro e w1 ⟨rfl, rfl⟩)
    | (go_at_call 41; refine (bytes32_any _ _ (by assumption) (by assumption)).mono ?_; rintro e w1 ⟨rfl, rfl⟩))
  go_ret
  refine ⟨_, rfl, ⟨?_⟩, ?_⟩
  · have h := own_new (B := w.heap.size) (w.alloc (hbox v t f s l)) (enc v t f s l) 12 rfl (by simp) (by decide)
    have hz : (w.alloc (hbox v t f s l)).heap.size = w.heap.size + 1 := by simp
    rw [hz] at h
    refine h.later ?_
    repeat first | exact Below.refl _ _ | refine Below.alloc ?_ (by simp <;> omega) _
  · repeat first | exact Below.refl _ _ | refine Below.alloc ?_ (by simp <;> omega) _

theorem OwnB.subst {B : Nat} {w : World} {v : Value} {ns : List Int} (h : OwnB B w v ns) : ∃ p c, v = .slice p ns.length c ∧ Aside (OwnB B w (.slice p ns.length c) ns) := by
  obtain ⟨p, c, rfl⟩ := h.shape
  exact ⟨p, c, rfl, ⟨h⟩⟩
set_option maxRecDepth 100000 in
set_option maxHeartbeats 2000000 in
theorem refEncode_any (v t f s l : Int) (w : World) (hf0 : 0 ≤ f) (hf1 : f ≤ 65535) (hs0 : 0 ≤ s) (hs1 : s ≤ 4294967295) (hl0 : 0 ≤ l) (hl1 : l ≤ 4294967295) :
    Calls Tryd.prog 32 #[hdr v t f s l] w fun e w' => ∃ x, e = .returned x ∧ Aside (OwnB w.heap.size w' x (enc v t f s l)) ∧ Below w.heap.size w w' := by
  have hz : (w.alloc (hbox v t f s l)).heap.size = w.heap.size + 1 := by simp
  have hz2 : ((w.alloc (hbox v t f s l)).alloc (.cells #[.int .u8 v, .int .u8 t] 5)).heap.size = w.heap.size + 2 := by simp
  have O1 := own_new (B := w.heap.size + 1) (w.alloc (hbox v t f s l)) [v, t] 2 rfl (by rw [hz]; exact Nat.le_refl _) (by decide)
  rw [hz] at O1
  have O1 : Aside (OwnB (w.heap.size + 1) ((w.alloc (hbox v t f s l)).alloc (.cells #[.int .u8 v, .int .u8 t] 5)) (.slice (some ⟨w.heap.size + 1, 0, none⟩) 2 2) [v, t]) := ⟨O1⟩
  have B1 : Aside (BoxAt w.heap.size f s l ((w.alloc (hbox v t f s l)).alloc (.cells #[.int .u8 v, .int .u8 t] 5))) := ⟨(BoxAt.new w v t f s l).later (alloc_below _ _) (by rw [hz]; omega)⟩
  have L1 : Aside (Below w.heap.size w ((w.alloc (hbox v t f s l)).alloc (.cells #[.int .u8 v, .int .u8 t] 5))) := ⟨alloc2_below _ _ _⟩
  have Z : Aside (((w.alloc (hbox v t f s l)).alloc (.cells #[.int .u8 v, .int .u8 t] 5)).heap.size = w.heap.size + 2) := ⟨hz2⟩
  clear hz hz2
  go_enter Tryd.func32, Tryd.ntmps32
  go_wp2_with fail
  obtain ⟨W1, hW⟩ : ∃ W, W = (w.alloc (hbox v t f s l)).alloc (.cells #[.int .u8 v, .int .u8 t] 5) := ⟨_, rfl⟩
  rw [← hW] at O1 B1 L1 Z ⊢
  clear hW
  go_wp2_with (first
    | (have _u := o5; clear _u; go_at_call 39; refine (refBytes4_r l _ (by assumption) (by assumption)).mono ?_; rintro e w6 ⟨s6, rfl, R6, K6⟩; have O6 := Aside.mk (o5.it.later K6); have B6 := B5.later K6 (by have := Z5.it; omega); have L6 := Aside.mk (L5.it.trans (K6.mono (by have := Z5.it; omega))); have Z6 : Aside (w.heap.size + 2 ≤ w6.heap.size) := ⟨by have := Z5.it; have := K6.size; omega⟩; clear K6)
    | (have _u := o3; clear _u; go_at_call 39; refine (refBytes4_r s _ (by assumption) (by assumption)).mono ?_; rintro e w4 ⟨s4, rfl, R4, K4⟩; have O4 := Aside.mk (o3.it.later K4); have B4 := B3.later K4 (by have := Z3.it; omega); have L4 := Aside.mk (L3.it.trans (K4.mono (by have := Z3.it; omega))); have Z4 : Aside (w.heap.size + 2 ≤ w4.heap.size) := ⟨by have := Z3.it; have := K4.size; omega⟩; clear K4)
    | (go_at_call 39; refine (refBytes2_r f _ (by assumption) (by assumption)).mono ?_; rintro e w2 ⟨s2, rfl, R2, K2⟩; have O2 := Aside.mk (O1.it.later K2); have B2 := B1.it.later K2 (by have := Z.it; omega); have L2 := Aside.mk (L1.it.trans (K2.mono (by have := Z.it; omega))); have Z2 : Aside (w.heap.size + 2 ≤ w2.heap.size) := ⟨by have := Z.it; have := K2.size; omega⟩; clear K2)
    | (at_builtin; refine wpList_appendB rfl (.tmp 9) (.tmp 13) rfl (w.heap.size + 1) _ s2 [v, t] (be2 f) O2.it R2.it (by show 2 + 2 ≤ 140737488355328; omega) (by have := Z2.it; omega) rfl rfl ?_; intro x3 w3 o3 k3; have B3 := B2.later k3.it (by omega); have g3 := B3.s; have L3 := Aside.mk (L2.it.trans (k3.it.mono (by omega))); have Z3 : Aside (w.heap.size + 2 ≤ w3.heap.size) := ⟨by have := Z2.it; have := k3.it.size; omega⟩)
    | (at_builtin; refine wpList_appendB rfl (.tmp 15) (.tmp 19) rfl (w.heap.size + 1) _ s4 ([v, t] ++ be2 f) (be4 s) O4.it R4.it (by show 4 + 4 ≤ 140737488355328; omega) (by have := Z4.it; omega) rfl rfl ?_; intro x5 w5 o5 k5; have B5 := B4.later k5.it (by omega); have g5 := B5.l; have L5 := Aside.mk (L4.it.trans (k5.it.mono (by omega))); have Z5 : Aside (w.heap.size + 2 ≤ w5.heap.size) := ⟨by have := Z4.it; have := k5.it.size; omega⟩)
    | (at_builtin; refine wpList_appendB rfl (.tmp 21) (.tmp 25) rfl (w.heap.size + 1) _ s6 (([v, t] ++ be2 f) ++ be4 s) (be4 l) O6.it R6.it (by show 8 + 4 ≤ 140737488355328; omega) (by have := Z6.it; omega) rfl rfl ?_; intro x7 w7 o7 k7; have L7 := Aside.mk (L6.it.trans (k7.it.mono (by omega)))))
  go_ret
  exact ⟨_, rfl, ⟨o7.it.mono (by omega)⟩, L7.it⟩
end Go.Proofs.YtfphoaphdfhhiaaDoor
