/-
  append onto a row of bytes that somebody owns: which blocks it changes, where the row lies behind it. Of whatever program that has the types of bytes.
-/
import Derived.Test.YtcmgmhdlokcgbabDoorOwnB
namespace Go.Proofs.YtcmgmhdlokcgbabDoor
open Go.RowKit

theorem owns_val {w : World} {base : Nat} {e : TypeId} {k n : Nat} {v : Value} {xs : List Value} (h : w.ownsRow base e k v n xs) : ∃ q c, v = .slice q n c := by
  rcases h.2 with ⟨rfl, rfl⟩ | ⟨g, cap, cur, rfl, _⟩
  · exact ⟨_, _, rfl⟩
  · exact ⟨_, _, rfl⟩
theorem bv_take (ns : List Int) (k : Nat) : bv (ns.take k) = (bv ns).take k := by simp [bv]
theorem bv_drop (ns : List Int) (k : Nat) : bv (ns.drop k) = (bv ns).drop k := by simp [bv]
end Go.Proofs.YtcmgmhdlokcgbabDoor
