/-
  NumSums: the walk.
-/
import Derived.Test.YtialmmobkmdfpaaDoorNumArith
namespace Go.Proofs.YtialmmobkmdfpaaDoor
open Go.RowKit

def addX (a b : Int) : Int := if a + b ≤ 4294967295 then a + b else 0
def addE (a b : Int) : Int := if a + b ≤ 4294967295 then 0 else 4
def subX (a b : Int) : Int := if b ≤ a then a - b else 0
def subE (a b : Int) : Int := if b ≤ a then 0 else 5
def narX (n : Int) : Int := if 0 ≤ n ∧ n ≤ 4294967295 then n else 0
def narE (n : Int) : Int := if 0 ≤ n ∧ n ≤ 4294967295 then 0 else 2

theorem add_any {A : Nat → Addr} (a b : Int) (w : World) (hs : Sents 134 codeVars A w) (ha : 0 ≤ a) (ha1 : a ≤ 4294967295) (hb : 0 ≤ b) :
    Calls Tryd.prog 57 #[.int .u32 a, .int .u32 b] w fun e w' => ∃ v, e = .returned (.tuple #[.int .u32 (addX a b), v]) ∧ Hid (Coded A v (addE a b)) ∧ Below w.heap.size w w' := by
  by_cases h : a + b ≤ 4294967295
  · refine (add_ok a b w ha hb h).mono ?_
    rintro e w' ⟨rfl, rfl⟩
    exact ⟨.nilIface, by rw [addX, if_pos h], by rw [addE, if_pos h]; exact Coded.none, Below.refl _ _⟩
  · refine (add_over a b w hs ha ha1 h).mono ?_
    rintro e w' ⟨rfl, hb⟩
    exact ⟨.iface 134 (.pointer (some (A 3))), by rw [addX, if_neg h], by rw [addE, if_neg h]; exact Coded.mk 3 4 (by decide) (by decide) rfl, hb⟩
end Go.Proofs.YtialmmobkmdfpaaDoor
