/-
  law 26: TapNil
-/
import Derived.Test.YtjhkbkbofbjoeabGreatDoorV2
import Derived.Test.YtjhkbkbofbjoeabGreatDoorOpenB
namespace Go.Proofs.YtjhkbkbofbjoeabGreatDoor
open Go.RowKit Go.Maps

/-- the ground of law 26 -/
structure BaseW (A : Nat → Addr) (w : World) : Prop where
  b : Base A w
  t : Words w
theorem tapSeen_nil (w : World) (k : Int) : Calls Tryz.prog 12 #[.pointer none, .int .u8 k] w fun e w' => e = .returned (.tuple #[.int .i64 0, .int .i64 0]) ∧ w' = w := by
  go_enter Tryz.func12, Tryz.ntmps12
  go_wp2_with fail
  go_ret2
  exact ⟨rfl, rfl⟩
theorem tapErr_nil (w : World) : Calls Tryz.prog 11 #[.pointer none] w fun e w' => e = .returned .nilIface ∧ w' = w := by
  go_enter Tryz.func11, Tryz.ntmps11
  go_wp2_with fail
  go_ret
  exact ⟨rfl, rfl⟩
theorem tapFeed_nil (w : World) (v : Value) : Calls Tryz.prog 13 #[.pointer none, v] w fun e w' => e = .returned (.string (str [])) ∧ w' = w := by
  go_enter Tryz.func13, Tryz.ntmps13
  go_wp2_with fail
  go_ret
  exact ⟨rfl, rfl⟩
/-- append([]byte{}, x...) -/
theorem copyRun {W : World} {x : Value} {ns : List Int} {N : Nat} (hx : Rd W x ns) (hN : ns.length = N) (hb : N ≤ 140737488355328) : ∃ (a : Option Addr) (c : Nat) (w' : World), (∀ ty, (Builtin.append_ #[32, 32] ty #[.slice (some ⟨W.heap.size, 0, none⟩) 0 0, x]).run Tryz.prog (W.alloc (.cells #[] 5)) = .ok (.slice a N c) w') ∧ Aside (Ny W w' (.slice a N c) ns) := by
  have K : Keeps Nowhere W (W.alloc (.cells #[] 5)) := (Keeps.refl _ _).alloc _
  exact appRun (ns := []) (owns_empty W 5) K (hx.later K.bel) (by simp; omega) (by simpa using hN)
attribute [-go_sem] Builtin.append_
set_option maxHeartbeats 1000000 in
theorem tapNil_walk {A : Nat → Addr} (x : Value) (ns : List Int) (k : Int) (w : World) (B : BaseW A w) (hx : BytesArg w x ns) (_ : 0 ≤ k) (_ : k ≤ 255) : Calls Tryz.prog 4 #[x, .int .u8 k] w fun e w' => e = .returned (.bool true) ∧ Below w.heap.size w w' := by
  have WK := Aside.mk (awake26 w B.b B.t)
  have HX := Aside.mk hx
  have HN := Aside.mk hx.2.2
  clear B hx
  go_enter Tryz.func4, Tryz.ntmps4
  go_wp2_with (first
    | (go_at_call 5; refine WK.it.mono ?_; rintro e w1 ⟨rfl, B1⟩; obtain ⟨ca, cc, w3, run3, N3⟩ := copyRun (HX.it.1.later B1.it) rfl (by have := HN.it; omega))
    | (go_at_call 12; refine (tapSeen_nil _ _).mono ?_; rintro e w2 ⟨rfl, rfl⟩)
    | (go_at_call 13; refine (tapFeed_nil _ _).mono ?_; rintro e w3 ⟨rfl, rfl⟩)
    | (go_at_call 11; refine (tapErr_nil _).mono ?_; rintro e w4 ⟨rfl, rfl⟩)
    | fail)
  go_ret
  exact ⟨rfl, B1.it.trans (N3.it.k.bel.mono B1.it.size)⟩
end Go.Proofs.YtjhkbkbofbjoeabGreatDoor
