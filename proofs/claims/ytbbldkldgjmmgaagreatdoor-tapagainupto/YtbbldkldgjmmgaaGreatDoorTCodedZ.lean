/-
  what a code says of an error
-/
import Derived.Test.YtbbldkldgjmmgaaGreatDoorTCode
namespace Go.Proofs.YtbbldkldgjmmgaaGreatDoor

section
variable {A : Nat → Addr}
theorem Coded.zero {v : Value} (h : Coded A v 0) : v = .nilIface := by
  rcases h with ⟨h, _⟩ | ⟨i, _, _, _, h⟩
  · exact h
  · omega
theorem Coded.pos {v : Value} {k : Int} (h : Coded A v k) (hk : k ≠ 0) : ∃ a, v = .iface 204 (.pointer (some a)) := by
  rcases h with ⟨_, h⟩ | ⟨i, _, _, h, _⟩
  · exact absurd h hk
  · exact ⟨_, h⟩
end
end Go.Proofs.YtbbldkldgjmmgaaGreatDoor
