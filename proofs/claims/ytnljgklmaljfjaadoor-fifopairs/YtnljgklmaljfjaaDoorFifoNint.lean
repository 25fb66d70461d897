/-
  package fifo at int: Remove of nothing
-/
import Derived.Test.YtnljgklmaljfjaaDoorFifoOint
namespace Go.Proofs.YtnljgklmaljfjaaDoor.Fint
open Go.RowKit

theorem which_some (w : World) (fn : Fn) (b c : Array Value) : (binOp BinOp.eql 99 (.func fn b c) .nilFunc).run Tryd.prog w = .ok (.bool false) w := by
  kernel_rfl
theorem which_none (w : World) : (binOp BinOp.eql 99 .nilFunc .nilFunc).run Tryd.prog w = .ok (.bool true) w := by
  kernel_rfl
theorem remove_none (x : Value) (w : World) : Calls Tryd.prog 40 #[x, .nilFunc] w fun e w' => e = .returned (.int .i64 0) ∧ w' = w := by
  have nn := which_none w
  go_enter Tryd.func40, Tryd.ntmps40
  go_wp2
  go_ret
  exact ⟨rfl, rfl⟩
theorem remove_nil (fn : Fn) (b c : Array Value) (w : World) : Calls Tryd.prog 40 #[.pointer none, .func fn b c] w fun e w' => e = .returned (.int .i64 0) ∧ w' = w := by
  have nn := which_some w fn b c
  go_enter Tryd.func40, Tryd.ntmps40
  go_wp2_with (go_at_call 43; refine (held_nil w).mono ?_; rintro e w1 ⟨rfl, rfl⟩)
  refine wp_loop_rounds 1 ?_
  rw [rounds_succ]
  go_wp2
  go_ret
  exact ⟨rfl, rfl⟩
end Go.Proofs.YtnljgklmaljfjaaDoor.Fint
