/-
  package ring at int: Clear
-/
import Derived.Test.YtkmijhfimkcoiaaDoorRingFint
namespace Go.Proofs.YtkmijhfimkcoiaaDoor.Rint
open Go.RowKit

variable {S : Nat → Prop} {w : World} {x : Value} {cap : Nat} {items : List Value}

theorem clearV (h : RingV S w x cap items) : Calls Tryd.prog 22 #[x] w fun e w' => e = .returned (.int .i64 items.length) ∧ RingV (Next S w.heap.size w.heap.size) w' x cap [] ∧ Keeps S w w' := by
  have L := hide (lenV h)
  have D := dropV h (items.length : Int)
  rw [Int.toNat_natCast, List.drop_length, show Nat.min items.length items.length = items.length from Nat.min_self _] at D
  have DH := hide D
  clear D h
  go_enter Tryd.func22, Tryd.ntmps22
  go_wp2_with fail
  refine L.out.mono ?_
  rintro e w1 ⟨rfl, rfl⟩
  go_wp2_with fail
  refine DH.out.mono ?_
  rintro e w2 ⟨rfl, hr, hk2⟩
  have HR := hide hr
  have HK2 := hide hk2
  clear hr hk2
  go_wp2
  go_ret
  exact ⟨rfl, HR.out, HK2.out⟩
end Go.Proofs.YtkmijhfimkcoiaaDoor.Rint
