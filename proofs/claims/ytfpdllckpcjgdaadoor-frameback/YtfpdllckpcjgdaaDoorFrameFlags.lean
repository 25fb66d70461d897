/-
  FrameFlags: the walk.
-/
import Derived.Test.YtfpdllckpcjgdaaDoorFrameE
namespace Go.Proofs.YtfpdllckpcjgdaaDoor
open Go.RowKit

/-- the stream that the law gives a type -/
def stF (t : Nat) : Int := if 2 ≤ t then 0 else 1
/-- how many flags below k may be at type t -/
def cntF (t k : Nat) : Nat := ((List.range k).filter fun f : Nat => chk 0 (t : Int) (f : Int) (stF t) 0 0 == 0).length
def sumF : Nat → Nat
  | 0 => 0
  | t + 1 => sumF t + cntF t 64
theorem cntF_succ (t k : Nat) : cntF t (k + 1) = cntF t k + if chk 0 t k (stF t) 0 0 = 0 then 1 else 0 := by
  unfold cntF
  rw [List.range_succ, List.filter_append, List.length_append]
  congr 1
  by_cases h : chk 0 t k (stF t) 0 0 = 0 <;> simp [h]
theorem cntF_le (t k : Nat) : cntF t k ≤ k := by
  unfold cntF
  exact Nat.le_trans (List.length_filter_le _ _) (by simp)
theorem sumF_le (t : Nat) : sumF t ≤ 64 * t := by
  induction t with
  | zero => exact Nat.le_refl _
  | succ t ih => have := cntF_le t 64; simp only [sumF]; omega
theorem sum6 : sumF 6 = 17 := by kernel_rfl
theorem coded_zero {A : Nat → Addr} {ev : Value} {k : Int} (V : Coded A ev k) : (k = 0 ∧ ev = .nilIface) ∨ (k ≠ 0 ∧ ∃ a, ev = .iface 107 (.pointer (some a))) := by
  rcases V with ⟨rfl, rfl⟩ | ⟨i, _, _, rfl, rfl⟩
  · exact .inl ⟨rfl, rfl⟩
  · exact .inr ⟨by omega, _, rfl⟩

theorem awake_a {A : Nat → Addr} {w : World} (W : World) (h : Aside (At4 A w W)) :
    Calls Tryd.prog 4 #[] W fun e w' => e = .returned (.bool true) ∧ Aside (At4 A w w') :=
  (awake4 W h.it.s h.it.l).mono (by rintro e w' ⟨rfl, hb⟩; exact ⟨rfl, ⟨h.it.later hb⟩⟩)

end Go.Proofs.YtfpdllckpcjgdaaDoor
