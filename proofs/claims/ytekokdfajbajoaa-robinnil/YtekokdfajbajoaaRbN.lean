/-
  RobinNil
-/
import Derived.Test.YtekokdfajbajoaaRbW
import Derived.Test.YtekokdfajbajoaaRbDint
import Derived.Test.YtekokdfajbajoaaRbLint
namespace Go.Proofs.Ytekokdfajbajoaa
open Go.RowKit

set_option maxHeartbeats 2000000 in
set_option maxRecDepth 20000 in
theorem robinNil_walk (k : Int) (w : World) : Calls Try.prog 5 #[.int .i64 k] w fun e w' => e = .returned (.bool true) ∧ Below w.heap.size w w' := by
  have WK := Aside.mk (wakes12 w)
  go_enter Try.func5, Try.ntmps5
  go_upto_region 4 with (first | (go_at_call 7; refine WK.it.mono ?_; rintro e w1 ⟨rfl, K1⟩) | fail)
  clear WK
  have NX := Aside.mk (Rbint.next_nil w1)
  have AD := Aside.mk (Rbint.add_nil k w1)
  have RM := Aside.mk (Rbint.remove_nil k w1)
  have HS := Aside.mk (Rbint.has_nil k w1)
  have LN := Aside.mk (Rbint.len_nil w1)
  have LS := Aside.mk (Rbint.list_nil w1)
  have CL := Aside.mk (Rbint.clear_nil w1)
  go_wp2_with (first
    | (go_at_call 15; refine NX.it.mono ?_; rintro e w7 ⟨rfl, rfl⟩)
    | (go_at_call 13; refine AD.it.mono ?_; rintro e w7 ⟨rfl, rfl⟩)
    | (go_at_call 14; refine RM.it.mono ?_; rintro e w7 ⟨rfl, rfl⟩)
    | (go_at_call 17; refine HS.it.mono ?_; rintro e w7 ⟨rfl, rfl⟩)
    | (go_at_call 12; refine LN.it.mono ?_; rintro e w7 ⟨rfl, rfl⟩)
    | (go_at_call 11; refine LS.it.mono ?_; rintro e w7 ⟨rfl, rfl⟩)
    | (go_at_call 18; refine CL.it.mono ?_; rintro e w7 ⟨rfl, rfl⟩)
    | fail)
  go_ret
  exact ⟨rfl, K1.it⟩
end Go.Proofs.Ytekokdfajbajoaa
