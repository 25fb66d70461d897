/-
  Itoa's texts: how long, and one to one. Of whatever program.
-/
import Derived.Test.YthjeeianlgkaaaaDoorTextI
import Derived.Test.YthjeeianlgkaaaaDoorLuP
namespace Go.Proofs.YthjeeianlgkaaaaDoor
open Go.Proofs.YthjeeianlgkaaaaDoor.Wd

theorem nDigits_le : ∀ (d u : Nat), u < 10 ^ d → 0 < d → (Lib.decDigits u).length ≤ d := by
  intro d
  induction d with
  | zero => intro u _ h; omega
  | succ d ih =>
    intro u hu _
    rw [Lib.decDigits]
    split
    · simp
    · rw [List.length_append, List.length_singleton]
      have h0 : 0 < d := by
        rcases Nat.eq_zero_or_pos d with e | e
        · subst e; omega
        · exact e
      have := ih (u / 10) (by rw [Nat.pow_succ] at hu; omega) h0
      omega
theorem itoa_len (k : Int) (h : I6 k) : (Lib.itoa k).length ≤ 21 := by
  have h1 := h.1
  have h2 := h.2
  unfold Lib.itoa
  split
  · have h3 : k.natAbs ≤ 9223372036854775808 := by omega
    have := nDigits_le 20 k.natAbs (Nat.lt_of_le_of_lt h3 (by decide)) (by decide)
    rw [List.length_cons]; omega
  · have h3 : k.toNat ≤ 9223372036854775807 := by omega
    have := nDigits_le 20 k.toNat (Nat.lt_of_le_of_lt h3 (by decide)) (by decide)
    omega
theorem itoa_inj {a b : Int} (h : Lib.itoa a = Lib.itoa b) : a = b := by
  have no : ∀ n : Nat, ∀ r, Lib.decDigits n ≠ 45 :: r := fun n r e => by have := dd_digit n 45 (by rw [e]; simp); simp at this
  unfold Lib.itoa at h
  split at h <;> split at h
  · have := dd_inj (List.cons.inj h).2; omega
  · exact absurd h.symm (no _ _)
  · exact absurd h (no _ _)
  · have := dd_inj h; omega
end Go.Proofs.YthjeeianlgkaaaaDoor
