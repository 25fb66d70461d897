/-
  FrameChecks.
-/
import Derived.Test.YtnifiagkiphjfaaDoorFrameD
namespace Go.Proofs.YtnifiagkiphjfaaDoor
open Go.RowKit

/-- a header's five cells in block p -/
def HB (p : Nat) (v t f s l : Int) (w : World) : Prop :=
  w.cell? ⟨p, 0, none⟩ = some (.int .u8 v) ∧ w.cell? ⟨p, 1, none⟩ = some (.int .u8 t) ∧ w.cell? ⟨p, 2, none⟩ = some (.int .u16 f) ∧ w.cell? ⟨p, 3, none⟩ = some (.int .u32 s) ∧ w.cell? ⟨p, 4, none⟩ = some (.int .u32 l)
theorem HB.later {p : Nat} {v t f s l : Int} {w w' : World} (h : HB p v t f s l w) (hb : Below w.heap.size w w') : HB p v t f s l w' := by
  have hp : p < w.heap.size := cell_lt h.1
  exact ⟨(hb.cell (p := ⟨p, 0, none⟩) hp).trans h.1, (hb.cell (p := ⟨p, 1, none⟩) hp).trans h.2.1, (hb.cell (p := ⟨p, 2, none⟩) hp).trans h.2.2.1, (hb.cell (p := ⟨p, 3, none⟩) hp).trans h.2.2.2.1, (hb.cell (p := ⟨p, 4, none⟩) hp).trans h.2.2.2.2⟩
theorem HB.new (w : World) (v t f s l : Int) : HB w.heap.size v t f s l (w.alloc (hbox v t f s l)) := by
  refine ⟨?_, ?_, ?_, ?_, ?_⟩ <;> simp [World.cell?, heap_alloc]

/-- the law's world: the sentinels and the table lie there, and what was in w is as it was -/
structure At4 (A : Nat → Addr) (w w' : World) : Prop where
  s : Sents 123 codeVars A w'
  l : Lawful w'
  b : Below w.heap.size w w'
theorem At4.later {A : Nat → Addr} {w w1 w2 : World} (h : At4 A w w1) (hb : Below w1.heap.size w1 w2) : At4 A w w2 :=
  ⟨h.s.later hb, h.l.later hb, h.b.trans (hb.mono h.b.size)⟩

/-- Check and the document's Check, in the law's world, a header's box kept -/
structure Boxed (A : Nat → Addr) (w : World) (p : Nat) (v t f s l : Int) (w' : World) : Prop where
  a : At4 A w w'
  h : HB p v t f s l w'
theorem Boxed.later {A : Nat → Addr} {w w1 w2 : World} {p : Nat} {v t f s l : Int} (h : Boxed A w p v t f s l w1) (hb : Below w1.heap.size w1 w2) : Boxed A w p v t f s l w2 := ⟨h.a.later hb, h.h.later hb⟩
theorem Boxed.cells {A : Nat → Addr} {w w1 : World} {p : Nat} {v t f s l : Int} (h : Aside (Boxed A w p v t f s l w1)) : HB p v t f s l w1 := h.it.h

theorem check_b {A : Nat → Addr} {w : World} {p : Nat} (v t f s l most : Int) (ht0 : 0 ≤ t) (ht1 : t ≤ 255) (hf : 0 ≤ f) (hl0 : 0 ≤ l) (hl1 : l ≤ 4294967295) (W : World) (h : Aside (Boxed A w p v t f s l W)) :
    Calls Tryd.prog 10 #[hdr v t f s l, .int .i64 most] W fun e w' => ∃ ev, e = .returned ev ∧ Aside (Coded A ev (chk v t f s l most)) ∧ Aside (Boxed A w p v t f s l w') :=
  (check_any v t f s l most W h.it.a.s h.it.a.l ht0 ht1 hf hl0 hl1).mono (by rintro e w' ⟨⟨ev, rfl, hv⟩, hb⟩; exact ⟨ev, rfl, ⟨hv⟩, ⟨h.it.later hb⟩⟩)
theorem refCheck_b {A : Nat → Addr} {w : World} {p : Nat} (v t f s l most : Int) (ht0 : 0 ≤ t) (hf : 0 ≤ f) (hl0 : 0 ≤ l) (hl1 : l ≤ 4294967295) (W : World) (h : Aside (Boxed A w p v t f s l W)) :
    Calls Tryd.prog 12 #[hdr v t f s l, .int .i64 most] W fun e w' => e = .returned (.int .i64 (chk v t f s l most)) ∧ Aside (Boxed A w p v t f s l w') :=
  (refCheck_any v t f s l most W ht0 hf hl0 hl1).mono (by rintro e w' ⟨rfl, hb⟩; exact ⟨rfl, ⟨h.it.later hb⟩⟩)
theorem code_b {A : Nat → Addr} {w : World} {p : Nat} {v t f s l k : Int} {ev : Value} (V : Aside (Coded A ev k)) (W : World) (h : Aside (Boxed A w p v t f s l W)) :
    Calls Tryd.prog 11 #[ev] W fun e w' => e = .returned (.int .i64 k) ∧ Aside (Boxed A w p v t f s l w') :=
  (code_of h.it.a.s V.it).mono (by rintro e w' ⟨rfl, rfl⟩; exact ⟨rfl, h⟩)
theorem awake_b {A : Nat → Addr} {w : World} {p : Nat} {v t f s l : Int} (W : World) (h : Aside (Boxed A w p v t f s l W)) :
    Calls Tryd.prog 9 #[] W fun e w' => e = .returned (.bool true) ∧ Aside (Boxed A w p v t f s l w') :=
  (awake4 W h.it.a.s h.it.a.l).mono (by rintro e w' ⟨rfl, hb⟩; exact ⟨rfl, ⟨h.it.later hb⟩⟩)

set_option maxHeartbeats 2000000 in
theorem frameChecks_law {A : Nat → Addr} (v t f s l most : Int) (w : World) (hs : Sents 123 codeVars A w) (hL : Lawful w) (ht0 : 0 ≤ t) (ht1 : t ≤ 255) (hf : 0 ≤ f) (hl0 : 0 ≤ l) (hl1 : l ≤ 4294967295) :
    Calls Tryd.prog 6 #[hdr v t f s l, .int .i64 most] w fun e w' => e = .returned (.bool true) ∧ Below w.heap.size w w' := by
  have G0 : Aside (Boxed A w w.heap.size v t f s l (w.alloc (hbox v t f s l))) := ⟨⟨⟨hs.later (alloc_below _ _), hL.later (alloc_below _ _), alloc_below _ _⟩, HB.new w v t f s l⟩⟩
  have C := Aside.mk (fun W h => check_b (A := A) (w := w) (p := w.heap.size) v t f s l most ht0 ht1 hf hl0 hl1 W h)
  have R := Aside.mk (fun W h => refCheck_b (A := A) (w := w) (p := w.heap.size) v t f s l most ht0 hf hl0 hl1 W h)
  clear hs hL
  go_enter Tryd.func6, Tryd.ntmps6
  go_wp2_with (go_at_call 9; refine (awake_b _ G0).mono ?_; rintro e w1 ⟨rfl, G1⟩)
  have G1d : Aside (Boxed A w w.heap.size v t f s l w1.drew) := ⟨G1.it.later (Below.refl _ _).drew⟩
  go_region_held_law (fun w' => w'.cell? ⟨w.heap.size, 0, none⟩ = some (.int .u8 v) ∧ w'.cell? ⟨w.heap.size, 1, none⟩ = some (.int .u8 t) ∧ w'.cell? ⟨w.heap.size, 2, none⟩ = some (.int .u16 f) ∧ w'.cell? ⟨w.heap.size, 3, none⟩ = some (.int .u32 s) ∧ w'.cell? ⟨w.heap.size, 4, none⟩ = some (.int .u32 l))
    (exact Boxed.cells (by assumption)) (first
    | (go_at_call 10; refine (C.it _ (by assumption)).mono ?_; rintro e w2 ⟨ev, rfl, V, G2⟩)
    | (go_at_call 11; refine (code_b V _ (by assumption)).mono ?_; rintro e w3 ⟨rfl, G3⟩)
    | (go_at_call 12; refine (R.it _ (by assumption)).mono ?_; rintro e w4 ⟨rfl, G4⟩))
  go_wp2_with fail
  go_ret
  exact ⟨rfl, G4.it.a.b⟩
end Go.Proofs.YtnifiagkiphjfaaDoor
