/-
  The sentinels that layer 26 names (TapNil, TapAgain), and what a code says of an error (for a row that lists these alone).
-/
import Derived.Test.YtbbldkldgjmmgaaGreatDoorIs
namespace Go.Proofs.YtbbldkldgjmmgaaGreatDoor
open Go.RowKit

/-- the places of the ten codes, their variables -/
def tenC : List Nat := [0, 1, 2, 10, 11, 12, 13, 14, 39, 40]
def tenVars : List Nat := [9, 8, 14, 1, 2, 3, 4, 0, 5, 6]
def tenI (i : Nat) : Nat := tenC.idxOf i
structure SentO (A : Nat → Addr) (W : World) : Prop where
  base : ∃ B : Nat → Addr, (∀ i, A i = B (tenI i)) ∧ Sents 204 tenVars B W
theorem SentO.cell {A : Nat → Addr} {W : World} (h : SentO A W) (i g : Nat) (e : tenVars[tenI i]? = some g) : W.cell? ⟨g, 0, none⟩ = some (.iface 204 (.pointer (some (A i)))) := by
  obtain ⟨B, hB, hs⟩ := h.base
  rw [hB i]
  exact hs.cell _ _ e
theorem SentO.later {A : Nat → Addr} {W W' : World} (h : SentO A W) (hb : Below W.heap.size W W') : SentO A W' := by
  obtain ⟨B, hB, hs⟩ := h.base
  exact ⟨B, hB, hs.later hb⟩
theorem ten_inj {i j : Nat} (hi : tenI i < 10) (hj : tenI j < 10) (e : tenI i = tenI j) : i = j := by
  unfold tenI at hi hj e
  have a : tenC[List.idxOf i tenC]'hi = i := List.getElem_idxOf hi
  have b : tenC[List.idxOf j tenC]'hj = j := List.getElem_idxOf hj
  have c : tenC[List.idxOf i tenC]'hi = tenC[List.idxOf j tenC]'hj := by simp only [e]; rfl
  exact a.symm.trans (c.trans b)
theorem is_sentsO {A : Nat → Addr} {w : World} (h : SentO A w) (i j : Nat) (hi : tenI i < 10) (hj : tenI j < 10) :
    Calls Tryz.prog 80 #[.iface 204 (.pointer (some (A i))), .iface 204 (.pointer (some (A j)))] w fun e w' => e = .returned (.bool (decide (i = j))) ∧ w' = w := by
  obtain ⟨B, hB, hs⟩ := h.base
  have := is_sents hs (tenI i) (tenI j) hi hj
  rw [hB i, hB j, show decide (i = j) = decide (tenI i = tenI j) from by by_cases e : i = j <;> simp [e]; intro x; exact e (ten_inj hi hj x)]
  exact this
/-- an error value that Code gives the number k -/
def Coded (A : Nat → Addr) (v : Value) (k : Int) : Prop := (v = .nilIface ∧ k = 0) ∨ ∃ i : Nat, i < 42 ∧ i ≠ 27 ∧ v = .iface 204 (.pointer (some (A i))) ∧ k = (i : Int) + 1
theorem Coded.none {A : Nat → Addr} : Coded A .nilIface 0 := Or.inl ⟨rfl, rfl⟩
theorem Coded.mk {A : Nat → Addr} (i : Nat) (k : Int) (h : i < 42) (h27 : i ≠ 27) (hk : k = (i : Int) + 1) : Coded A (.iface 204 (.pointer (some (A i)))) k := Or.inr ⟨i, h, h27, rfl, hk⟩
end Go.Proofs.YtbbldkldgjmmgaaGreatDoor
