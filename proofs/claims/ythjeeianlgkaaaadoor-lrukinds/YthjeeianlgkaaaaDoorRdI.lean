/-
  slices of numbers that can be read; rows of numbers of the call's own. Of whatever program.
-/
import Derived.Test.YthjeeianlgkaaaaDoorIv
import Derived.Test.YthjeeianlgkaaaaDoorBase
namespace Go.Proofs.YthjeeianlgkaaaaDoor
open Go.RowKit

/-- a slice of numbers that can be read -/
def RdI (w : World) (v : Value) (zs : List Int) : Prop :=
  ∃ sa sc, v = .slice sa zs.length sc ∧ zs.length ≤ sc ∧ sc ≤ maxLen ∧ ∀ k z, zs[k]? = some z → (-9223372036854775808 ≤ z ∧ z ≤ 9223372036854775807) ∧ ∃ sb so, sa = some ⟨sb, so, none⟩ ∧ w.cell? ⟨sb, so + k, none⟩ = some (.int .i64 z)
theorem RdI.later {w w' : World} {v : Value} {zs : List Int} (h : RdI w v zs) (hb : Below w.heap.size w w') : RdI w' v zs := by
  obtain ⟨sa, sc, rfl, h1, h2, h3⟩ := h
  refine ⟨sa, sc, rfl, h1, h2, fun k z hz => ?_⟩
  obtain ⟨hb1, sb, so, rfl, hc⟩ := h3 k z hz
  exact ⟨hb1, sb, so, rfl, by rw [hb.cell (World.block_lt_of_cell? w _ hc)]; exact hc⟩
theorem RdI.quiet {w w' : World} {v : Value} {zs : List Int} (h : RdI w v zs) (hb : Keeps Nowhere w w') : RdI w' v zs := h.later hb.bel
theorem RdI.take {w : World} {sa : Option Addr} {n sc : Nat} {zs : List Int} (h : RdI w (.slice sa n sc) zs) (k : Nat) (hk : k ≤ zs.length) : RdI w (.slice sa k sc) (zs.take k) := by
  obtain ⟨sa', sc', e, h1, h2, h3⟩ := h
  injection e with e1 e2 e3
  subst e1 e3
  refine ⟨sa, sc, by rw [List.length_take, Nat.min_eq_left hk], by rw [List.length_take]; omega, h2, fun i z hz => ?_⟩
  rw [List.getElem?_take] at hz
  split at hz
  · exact h3 i z hz
  · cases hz
/-- a row of numbers of the call's own, read -/
theorem owns_rdI {w : World} {base : Nat} {e : TypeId} {v : Value} {n : Nat} {zs : List Int} (h : w.ownsRow base e 1 v n (iv zs)) (hz : ∀ z ∈ zs, -9223372036854775808 ≤ z ∧ z ≤ 9223372036854775807) : RdI w v zs := by
  obtain ⟨hl, a, c, rfl, h1, h2, h3, h4⟩ := owns_readsK h
  rw [iv_length, Nat.mul_one] at hl
  subst hl
  refine ⟨a, c, rfl, h1, h2, fun k z hk => ⟨hz z (List.mem_of_getElem? hk), ?_⟩⟩
  exact h4 k (.int .i64 z) (by simp [iv, hk])
theorem RdI.bounds {w : World} {v : Value} {zs : List Int} (h : RdI w v zs) : ∀ z ∈ zs, -9223372036854775808 ≤ z ∧ z ≤ 9223372036854775807 := by
  obtain ⟨sa, sc, rfl, h1, h2, h3⟩ := h
  intro z hz
  obtain ⟨k, hk⟩ := List.mem_iff_getElem?.1 hz
  exact (h3 k z hk).1
end Go.Proofs.YthjeeianlgkaaaaDoor
