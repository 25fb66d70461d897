/-
  NumSums: the walk.
-/
import Derived.Test.YteghehhifebhcaaDoorONumArith
namespace Go.Proofs.YteghehhifebhcaaDoor
open Go.RowKit

def addX (a b : Int) : Int := if a + b ≤ 4294967295 then a + b else 0
def addE (a b : Int) : Int := if a + b ≤ 4294967295 then 0 else 4
def subX (a b : Int) : Int := if b ≤ a then a - b else 0
def subE (a b : Int) : Int := if b ≤ a then 0 else 5
def narX (n : Int) : Int := if 0 ≤ n ∧ n ≤ 4294967295 then n else 0
def narE (n : Int) : Int := if 0 ≤ n ∧ n ≤ 4294967295 then 0 else 2

theorem sub_any {A : Nat → Addr} (a b : Int) (w : World) (hs : SentO A w) (ha1 : a ≤ 4294967295) (hb : 0 ≤ b) :
    Calls Tryd.prog 88 #[.int .u32 a, .int .u32 b] w fun e w' => ∃ v, e = .returned (.tuple #[.int .u32 (subX a b), v]) ∧ Hid (Coded A v (subE a b)) ∧ Below w.heap.size w w' := by
  by_cases h : b ≤ a
  · refine (sub_ok a b w ha1 hb h).mono ?_
    rintro e w' ⟨rfl, rfl⟩
    exact ⟨.nilIface, by rw [subX, if_pos h], by rw [subE, if_pos h]; exact Coded.none, Below.refl _ _⟩
  · refine (sub_under a b w hs h).mono ?_
    rintro e w' ⟨rfl, hb⟩
    exact ⟨.iface 156 (.pointer (some (A 4))), by rw [subX, if_neg h], by rw [subE, if_neg h]; exact Coded.mk 4 5 (by decide) (by decide) rfl, hb⟩
theorem narrow_any {A : Nat → Addr} (n : Int) (w : World) (hs : SentO A w) :
    Calls Tryd.prog 87 #[.int .i64 n] w fun e w' => ∃ v, e = .returned (.tuple #[.int .u32 (narX n), v]) ∧ Hid (Coded A v (narE n)) ∧ Below w.heap.size w w' := by
  by_cases h : 0 ≤ n ∧ n ≤ 4294967295
  · refine (narrow_ok n w h.1 h.2).mono ?_
    rintro e w' ⟨rfl, rfl⟩
    exact ⟨.nilIface, by rw [narX, if_pos h], by rw [narE, if_pos h]; exact Coded.none, Below.refl _ _⟩
  · refine (narrow_no n w hs (by omega)).mono ?_
    rintro e w' ⟨rfl, hb⟩
    exact ⟨.iface 156 (.pointer (some (A 1))), by rw [narX, if_neg h], by rw [narE, if_neg h]; exact Coded.mk 1 2 (by decide) (by decide) rfl, hb⟩
end Go.Proofs.YteghehhifebhcaaDoor
