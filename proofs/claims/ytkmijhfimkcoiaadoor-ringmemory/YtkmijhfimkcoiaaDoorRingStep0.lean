/-
  culvertlaw02's Step
-/
import Derived.Test.YtkmijhfimkcoiaaDoorRingPlay2
import Derived.Test.YtkmijhfimkcoiaaDoorCode
namespace Go.Proofs.YtkmijhfimkcoiaaDoor
open Go.RowKit Rint

theorem idx_lt (x : Int) : ∃ i : Nat, i < 4 ∧ (wrap64 (x.tmod 4 + 4)).tmod 4 = (i : Int) := by
  have h1 : -4 < x.tmod 4 ∧ x.tmod 4 < 4 := by
    have h := Int.tmod_lt_of_pos x (show (0 : Int) < 4 by decide)
    have h2 : -4 < x.tmod 4 := by
      rcases Int.le_total 0 x with hx | hx
      · rw [Int.tmod_eq_emod_of_nonneg hx]; omega
      · have : x.tmod 4 = -((-x).tmod 4) := by rw [Int.neg_tmod]; omega
        rw [this, Int.tmod_eq_emod_of_nonneg (by omega)]; omega
    exact ⟨h2, h⟩
  have e2 : wrap64 (x.tmod 4 + 4) = x.tmod 4 + 4 := by unfold wrap64; omega
  rw [e2, Int.tmod_eq_emod_of_nonneg (by omega)]
  exact ⟨((x.tmod 4 + 4) % 4).toNat, by omega, by omega⟩

theorem reads_nil (own : Nat → Nat) (j : Nat) (w : World) : ReadsO own j w (.slice none 0 0) (iv []) :=
  ⟨⟨none, 0, rfl, Nat.le_refl _, fun _ _ h => by simp [iv] at h⟩, fun _ _ e => by injection e with _ _ e; exact e.symm⟩
theorem upd_self {α : Type} (f : Nat → α) (i : Nat) : upd f i (f i) = f := by
  funext k
  unfold upd
  split
  · rename_i h; rw [h]
  · rfl

end Go.Proofs.YtkmijhfimkcoiaaDoor
