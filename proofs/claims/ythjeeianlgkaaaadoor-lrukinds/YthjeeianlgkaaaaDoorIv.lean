/-
  Lists of numbers as values. Of whatever program.
-/
import Derived.Test.YthjeeianlgkaaaaDoorBase
namespace Go.Proofs.YthjeeianlgkaaaaDoor

def iv (ns : List Int) : List Value := ns.map (Value.int .i64)
theorem iv_one (ns : List Int) : ∀ u ∈ iv ns, u.oneCell' = true := by
  intro u hu
  simp only [iv, List.mem_map] at hu
  obtain ⟨n, _, rfl⟩ := hu
  rfl
theorem iv_take (xs : List Int) (k : Nat) : (iv xs).take k = iv (xs.take k) := by simp [iv, List.map_take]
theorem iv_drop (xs : List Int) (k : Nat) : (iv xs).drop k = iv (xs.drop k) := by simp [iv, List.map_drop]
theorem iv_append (xs ys : List Int) : iv xs ++ iv ys = iv (xs ++ ys) := by simp [iv]
theorem iv_length (xs : List Int) : (iv xs).length = xs.length := by simp [iv]
end Go.Proofs.YthjeeianlgkaaaaDoor
