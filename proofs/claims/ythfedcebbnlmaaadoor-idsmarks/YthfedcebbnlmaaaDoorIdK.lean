/-
  IdsMarks
-/
import Derived.Test.YthfedcebbnlmaaaDoorIdZ
namespace Go.Proofs.YthfedcebbnlmaaaDoor
open Go.RowKit

section
variable {own own' : Nat → Nat} {w w' w0 : World} {A : Nat → Addr} {X : List (Nat × TypeId × List Value)} {z z' : Option (Nat × Im)} {pv : Value}
/-- the marks never fall -/
structure MonI (x y : Im) : Prop where
  o : y.o = x.o
  up : ∀ k, (k = 0 ∨ k = 1) → x.mark k ≤ y.mark k
theorem MonI.refl (x : Im) : MonI x x := ⟨rfl, fun _ _ => Int.le_refl _⟩
theorem MonI.rise {x : Im} {id : Int} (h : x.known id = false) (h0 : id ≠ 0) : MonI x (x.rise id) := by
  refine ⟨Im.rise_o, fun k hk => ?_⟩
  have hm : x.mark (id % 2) < id := by
    rcases Int.lt_or_le (x.mark (id % 2)) id with hl | hl
    · exact hl
    · have := Im.known_iff.2 ⟨h0, hl⟩
      rw [h] at this
      cases this
  by_cases e : id % 2 = k
  · subst e
    rw [Im.mark_rise]
    omega
  · rw [Im.mark_rise_other hk e]
    exact Int.le_refl _
theorem MonI.sent (x : Im) (id : Int) : MonI x (x.sent id) := by
  unfold Im.sent
  split
  · rename_i e
    unfold Im.sentE at e
    split at e
    · rename_i hm
      split at e
      · split at e
        · omega
        · rename_i hk
          exact MonI.rise (Bool.eq_false_iff.2 hk) (Im.mine_iff.1 hm).1
      · omega
    · omega
  · exact MonI.refl x
theorem MonI.hear (x : Im) (id : Int) : MonI x (x.hear id) := by
  unfold Im.hear
  split
  · rename_i e
    unfold Im.hearE at e
    split at e
    · omega
    · rename_i hz
      split at e
      · omega
      · split at e
        · omega
        · rename_i hk
          exact MonI.rise (Bool.eq_false_iff.2 hk) hz
  · exact MonI.refl x
structure MonZ (z z' : Option (Nat × Im)) : Prop where
  m : zM z ≤ zM z'
  t : zT z ≤ zT z'
  kn : ∀ id, zKnown z id = true → zKnown z' id = true
theorem MonZ.refl (z : Option (Nat × Im)) : MonZ z z := ⟨Int.le_refl _, Int.le_refl _, fun _ h => h⟩
theorem MonZ.of {p q : Nat} {x y : Im} (hx : x.Ok) (h : MonI x y) : MonZ (some (p, x)) (some (q, y)) := by
  have ho := hx.o01
  refine ⟨?_, ?_, fun id hk => ?_⟩
  · show x.mark x.o ≤ y.mark y.o
    rw [h.o]; exact h.up _ ho
  · show x.mark (1 - x.o) ≤ y.mark (1 - y.o)
    rw [h.o]; exact h.up _ (by omega)
  · obtain ⟨a, b⟩ := Im.known_iff.1 (show x.known id = true from hk)
    exact Im.known_iff.2 ⟨a, Int.le_trans b (h.up _ (by omega))⟩
theorem MonZ.next (h : zOk z) : MonZ z (zNext z) := by
  match z, h with
  | none, _ => exact MonZ.refl _
  | some (p, x), h =>
    show MonZ _ (some (p, if x.n ≤ 4294967295 then x.next else x))
    split
    · exact MonZ.of h ⟨rfl, fun _ _ => Int.le_refl _⟩
    · exact MonZ.refl _
theorem MonZ.sent (h : zOk z) (id : Int) : MonZ z (zSent z id) := by
  match z, h with
  | none, _ => exact MonZ.refl _
  | some (p, x), h => exact MonZ.of h (MonI.sent x id)
theorem MonZ.hear (h : zOk z) (id : Int) : MonZ z (zHear z id) := by
  match z, h with
  | none, _ => exact MonZ.refl _
  | some (p, x), h => exact MonZ.of h (MonI.hear x id)
/-- what is refused changes nothing -/
theorem zNext_no (h : zNextE z ≠ 0) : zNext z = z := by
  match z, h with
  | none, _ => rfl
  | some (p, x), h =>
    have h' : (if x.n ≤ 4294967295 then (0 : Int) else 32) ≠ 0 := h
    show some (p, if x.n ≤ 4294967295 then x.next else x) = _
    split
    · rename_i e; rw [if_pos e] at h'; exact absurd rfl h'
    · rfl
theorem zSent_no {id : Int} (h : zSentE z id ≠ 0) : zSent z id = z := by
  match z, h with
  | none, _ => rfl
  | some (p, x), h =>
    show some (p, x.sent id) = _
    rw [show x.sent id = x from if_neg h]
theorem zHear_no {id : Int} (h : zHearE z id ≠ 0) : zHear z id = z := by
  match z, h with
  | none, _ => rfl
  | some (p, x), h =>
    show some (p, x.hear id) = _
    rw [show x.hear id = x from if_neg h]
theorem zKnown_eq (h : zOk z) {id : Int} (h0 : 0 ≤ id) : zKnown z id = (id != 0 && decide (id ≤ if zMine z id then zM z else zT z)) := by
  match z, h with
  | none, _ =>
    show false = (id != 0 && decide (id ≤ (0 : Int)))
    by_cases hz : id = 0
    · subst hz; rfl
    · rw [show decide (id ≤ (0 : Int)) = false from decide_eq_false (by omega), Bool.and_false]
  | some (p, x), h =>
    have hx : x.Ok := h
    show x.known id = (id != 0 && decide (id ≤ if x.mine id then x.mark x.o else x.mark (1 - x.o)))
    by_cases hz : id = 0
    · subst hz; rfl
    · have ez : (id != 0) = true := by simpa using hz
      by_cases hq : x.mine id = true
      · rw [known_own hq, ez, Bool.true_and, if_pos hq]
      · rw [known_other hx.o01 hz (Bool.eq_false_iff.2 hq), ez, Bool.true_and, if_neg hq]
theorem iz_known (h : Aside (Iz A w0 X pv z own w)) (id : Int) (h0 : 0 ≤ id) : Calls Tryd.prog 19 #[pv, .int .u32 id] w fun e w' => e = .returned (.bool (zKnown z id)) ∧ Aside (Iz A w0 X pv z own w') :=
  (iz_knownK h id h0).mono (by rintro e w' ⟨rfl, k⟩; exact ⟨rfl, Iz.quiet h k.it⟩)
theorem iz_left (h : Aside (Iz A w0 X pv z own w)) : Calls Tryd.prog 10 #[pv] w fun e w' => e = .returned (.int .i64 (zLeft z)) ∧ Aside (Iz A w0 X pv z own w') :=
  (iz_leftK h).mono (by rintro e w' ⟨rfl, k⟩; exact ⟨rfl, Iz.quiet h k.it⟩)
theorem iz_mine (h : Aside (Iz A w0 X pv z own w)) (id : Int) (h0 : 0 ≤ id) : Calls Tryd.prog 21 #[pv, .int .u32 id] w fun e w' => e = .returned (.bool (zMine z id)) ∧ Aside (Iz A w0 X pv z own w') :=
  (iz_mineK h id h0).mono (by rintro e w' ⟨rfl, k⟩; exact ⟨rfl, Iz.quiet h k.it⟩)
theorem Iz.op1 {b : Nat} {t : TypeId} {kind id : Int} (h : Aside (Iz A w0 ((b, t, [.int .i64 kind, .int .u32 id]) :: X) pv z own w)) : w.cell? ⟨b, 0, none⟩ = some (.int .i64 kind) ∧ w.cell? ⟨b, 1, none⟩ = some (.int .u32 id) :=
  ⟨(IdW.head h.it.it).cell 0, (IdW.head h.it.it).cell 1⟩
end
end Go.Proofs.YthfedcebbnlmaaaDoor
