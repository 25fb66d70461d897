/-
  FrameFlags: the walk.
-/
import Derived.Test.YtnifiagkiphjfaaDoorFrameE
namespace Go.Proofs.YtnifiagkiphjfaaDoor
open Go.RowKit

/-- the stream that the law gives a type -/
def stF (t : Nat) : Int := if 2 ≤ t then 0 else 1
/-- how many flags below k may be at type t -/
def cntF (t k : Nat) : Nat := ((List.range k).filter fun f : Nat => chk 0 (t : Int) (f : Int) (stF t) 0 0 == 0).length
def sumF : Nat → Nat
  | 0 => 0
  | t + 1 => sumF t + cntF t 64
theorem cntF_succ (t k : Nat) : cntF t (k + 1) = cntF t k + if chk 0 t k (stF t) 0 0 = 0 then 1 else 0 := by
  unfold cntF
  rw [List.range_succ, List.filter_append, List.length_append]
  congr 1
  by_cases h : chk 0 t k (stF t) 0 0 = 0 <;> simp [h]
theorem cntF_le (t k : Nat) : cntF t k ≤ k := by
  unfold cntF
  exact Nat.le_trans (List.length_filter_le _ _) (by simp)
theorem sumF_le (t : Nat) : sumF t ≤ 64 * t := by
  induction t with
  | zero => exact Nat.le_refl _
  | succ t ih => have := cntF_le t 64; simp only [sumF]; omega
theorem sum6 : sumF 6 = 17 := by kernel_rfl
theorem coded_zero {A : Nat → Addr} {ev : Value} {k : Int} (V : Coded A ev k) : (k = 0 ∧ ev = .nilIface) ∨ (k ≠ 0 ∧ ∃ a, ev = .iface 123 (.pointer (some a))) := by
  rcases V with ⟨rfl, rfl⟩ | ⟨i, _, _, rfl, rfl⟩
  · exact .inl ⟨rfl, rfl⟩
  · exact .inr ⟨by omega, _, rfl⟩

theorem awake_a {A : Nat → Addr} {w : World} (W : World) (h : Aside (At4 A w W)) :
    Calls Tryd.prog 9 #[] W fun e w' => e = .returned (.bool true) ∧ Aside (At4 A w w') :=
  (awake4 W h.it.s h.it.l).mono (by rintro e w' ⟨rfl, hb⟩; exact ⟨rfl, ⟨h.it.later hb⟩⟩)

set_option maxHeartbeats 4000000 in
theorem frameFlags_walk {A : Nat → Addr} (w : World) (hs : At4 A w w) :
    Calls Tryd.prog 3 #[] w fun e w' => e = .returned (.bool true) ∧ Below w.heap.size w w' := by
  have G0 := Aside.mk hs
  clear hs
  go_enter Tryd.func3, Tryd.ntmps3
  go_wp2_with (go_at_call 9; refine (awake_a _ G0).mono ?_; rintro e w1 ⟨rfl, G1⟩)
  go_loopw [1, 2] (fun n t wr => ∃ m : Nat, m ≤ 6 ∧ t = .int .i64 (m : Int) ∧ n = .int .i64 (sumF m : Nat) ∧ Aside (At4 A w wr)) (fun _ t _ => 6 - (intOf t).toNat)
  case atStart => exact ⟨0, by omega, rfl, rfl, G1⟩
  case round =>
    obtain ⟨m, hm, rfl, rfl, G2⟩ := hrel
    by_cases hlt : m < 6
    · have hlt' : (m : Int) < 6 := by omega
      go_wp2_with fail
      go_loopw [1, 3] (fun n f wr => ∃ k : Nat, k ≤ 64 ∧ f = .int .i64 (k : Int) ∧ n = .int .i64 (sumF m + cntF m k : Nat) ∧ Aside (At4 A w wr)) (fun _ f _ => 64 - (intOf f).toNat)
      case atStart => exact ⟨0, by omega, rfl, rfl, G2⟩
      case round =>
        obtain ⟨k, hk, rfl, rfl, G3⟩ := hrel
        by_cases hk' : k < 64
        · have hk2 : (k : Int) < 64 := by omega
          have hN : Aside (((sumF m + cntF m k : Nat) : Int) ≤ 1000) := ⟨by have := sumF_le m; have := cntF_le m k; omega⟩
          by_cases h2 : m < 2
          · have h2' : (m : Int) < 2 := by omega
            have hst : stF m = 1 := by simp [stF]; omega
            have G4 : Aside (Boxed A w wr.heap.size 0 m k 1 0 (wr.alloc (hbox 0 m k 1 0))) := ⟨⟨G3.it.later (alloc_below _ _), HB.new wr 0 m k 1 0⟩⟩
            have C := Aside.mk (fun W h => check_b (A := A) (w := w) (p := wr.heap.size) 0 m k 1 0 0 (by omega) (by omega) (by omega) (by omega) (by omega) W h)
            have R := Aside.mk (fun W h => refCheck_b (A := A) (w := w) (p := wr.heap.size) 0 m k 1 0 0 (by omega) (by omega) (by omega) (by omega) W h)
            go_wp2_with (go_at_call 10; refine (C.it _ G4).mono ?_; rintro e w2 ⟨ev, rfl, V, G5⟩)
            have G5d : Aside (Boxed A w wr.heap.size 0 m k 1 0 w2.drew) := ⟨G5.it.later (Below.refl _ _).drew⟩
            rcases coded_zero V.it with ⟨hz, rfl⟩ | ⟨hz, a, rfl⟩
            all_goals
              go_region_held_law (fun w' => w'.cell? ⟨wr.heap.size, 0, none⟩ = some (.int .u8 0) ∧ w'.cell? ⟨wr.heap.size, 1, none⟩ = some (.int .u8 m) ∧ w'.cell? ⟨wr.heap.size, 2, none⟩ = some (.int .u16 k) ∧ w'.cell? ⟨wr.heap.size, 3, none⟩ = some (.int .u32 1) ∧ w'.cell? ⟨wr.heap.size, 4, none⟩ = some (.int .u32 0))
                (exact Boxed.cells (by assumption)) (first
                | (go_at_call 11; refine (code_b V _ (by assumption)).mono ?_; rintro e w3 ⟨rfl, G6⟩)
                | (go_at_call 12; refine (R.it _ (by assumption)).mono ?_; rintro e w4 ⟨rfl, G7⟩))
            all_goals go_wp2_with fail
            · have e : cntF m (k + 1) = cntF m k + 1 := by rw [cntF_succ, hst, if_pos hz]
              have hn1 := sumF_le m
              have hn2 := cntF_le m k
              refine ⟨⟨k + 1, by omega, by go_num, ?_, ⟨G7.it.a⟩⟩, by simp [intOf]; omega⟩
              have hw : wrap64 ((sumF m : Int) + (cntF m k : Int) + 1) = (sumF m : Int) + (cntF m k : Int) + 1 := by unfold wrap64; omega
              rw [e, hw]
              go_num
            · have e : cntF m (k + 1) = cntF m k := by rw [cntF_succ, hst, if_neg hz]; rfl
              refine ⟨⟨k + 1, by omega, by go_num, ?_, ⟨G7.it.a⟩⟩, by simp [intOf]; omega⟩
              rw [e]
              go_num
          · have h2' : ¬ (m : Int) < 2 := by omega
            have hst : stF m = 0 := by simp [stF]; omega
            have G4 : Aside (Boxed A w wr.heap.size 0 m k 0 0 (wr.alloc (hbox 0 m k 0 0))) := ⟨⟨G3.it.later (alloc_below _ _), HB.new wr 0 m k 0 0⟩⟩
            have C := Aside.mk (fun W h => check_b (A := A) (w := w) (p := wr.heap.size) 0 m k 0 0 0 (by omega) (by omega) (by omega) (by omega) (by omega) W h)
            have R := Aside.mk (fun W h => refCheck_b (A := A) (w := w) (p := wr.heap.size) 0 m k 0 0 0 (by omega) (by omega) (by omega) (by omega) W h)
            go_wp2_with (go_at_call 10; refine (C.it _ G4).mono ?_; rintro e w2 ⟨ev, rfl, V, G5⟩)
            have G5d : Aside (Boxed A w wr.heap.size 0 m k 0 0 w2.drew) := ⟨G5.it.later (Below.refl _ _).drew⟩
            rcases coded_zero V.it with ⟨hz, rfl⟩ | ⟨hz, a, rfl⟩
            all_goals
              go_region_held_law (fun w' => w'.cell? ⟨wr.heap.size, 0, none⟩ = some (.int .u8 0) ∧ w'.cell? ⟨wr.heap.size, 1, none⟩ = some (.int .u8 m) ∧ w'.cell? ⟨wr.heap.size, 2, none⟩ = some (.int .u16 k) ∧ w'.cell? ⟨wr.heap.size, 3, none⟩ = some (.int .u32 0) ∧ w'.cell? ⟨wr.heap.size, 4, none⟩ = some (.int .u32 0))
                (exact Boxed.cells (by assumption)) (first
                | (go_at_call 11; refine (code_b V _ (by assumption)).mono ?_; rintro e w3 ⟨rfl, G6⟩)
                | (go_at_call 12; refine (R.it _ (by assumption)).mono ?_; rintro e w4 ⟨rfl, G7⟩))
            all_goals go_wp2_with fail
            · have e : cntF m (k + 1) = cntF m k + 1 := by rw [cntF_succ, hst, if_pos hz]
              have hn1 := sumF_le m
              have hn2 := cntF_le m k
              refine ⟨⟨k + 1, by omega, by go_num, ?_, ⟨G7.it.a⟩⟩, by simp [intOf]; omega⟩
              have hw : wrap64 ((sumF m : Int) + (cntF m k : Int) + 1) = (sumF m : Int) + (cntF m k : Int) + 1 := by unfold wrap64; omega
              rw [e, hw]
              go_num
            · have e : cntF m (k + 1) = cntF m k := by rw [cntF_succ, hst, if_neg hz]; rfl
              refine ⟨⟨k + 1, by omega, by go_num, ?_, ⟨G7.it.a⟩⟩, by simp [intOf]; omega⟩
              rw [e]
              go_num
        · obtain rfl : k = 64 := by omega
          go_wp2_with fail
          go_roundw
          case rel => exact ⟨m + 1, by omega, by go_num, rfl, G3⟩
          case measure => simp [intOf]; omega
    · obtain rfl : m = 6 := by omega
      go_wp2_with fail
      go_ret
      refine ⟨?_, G2.it.b⟩
      rw [sum6]
      rfl
end Go.Proofs.YtnifiagkiphjfaaDoor
