/-
  law 26: TapNil
-/
import Derived.Test.YtbbldkldgjmmgaaGreatDoorV2
import Derived.Test.YtbbldkldgjmmgaaGreatDoorOpenB
namespace Go.Proofs.YtbbldkldgjmmgaaGreatDoor
open Go.RowKit Go.Maps

/-- the ground of law 26 -/
structure BaseW (A : Nat → Addr) (w : World) : Prop where
  b : Base A w
  t : Words w
theorem tapErr_nil (w : World) : Calls Tryz.prog 10 #[.pointer none] w fun e w' => e = .returned .nilIface ∧ w' = w := by
  go_enter Tryz.func10, Tryz.ntmps10
  go_wp2_with fail
  go_ret
  exact ⟨rfl, rfl⟩
theorem tapFeed_nil (w : World) (v : Value) : Calls Tryz.prog 13 #[.pointer none, v] w fun e w' => e = .returned (.string (str [])) ∧ w' = w := by
  go_enter Tryz.func13, Tryz.ntmps13
  go_wp2_with fail
  go_ret
  exact ⟨rfl, rfl⟩
/-- append([]byte{}, x...) -/
theorem copyRun {W : World} {x : Value} {ns : List Int} {N : Nat} (hx : Rd W x ns) (hN : ns.length = N) (hb : N ≤ 140737488355328) : ∃ (a : Option Addr) (c : Nat) (w' : World), (∀ ty, (Builtin.append_ #[32, 32] ty #[.slice (some ⟨W.heap.size, 0, none⟩) 0 0, x]).run Tryz.prog (W.alloc (.cells #[] 5)) = .ok (.slice a N c) w') ∧ Aside (Ny W w' (.slice a N c) ns) := by
  have K : Keeps Nowhere W (W.alloc (.cells #[] 5)) := (Keeps.refl _ _).alloc _
  exact appRun (ns := []) (owns_empty W 5) K (hx.later K.bel) (by simp; omega) (by simpa using hN)
attribute [-go_sem] Builtin.append_
end Go.Proofs.YtbbldkldgjmmgaaGreatDoor
