/-
  IdsNames
-/
import Derived.Test.YthfedcebbnlmaaaDoorIdC
namespace Go.Proofs.YthfedcebbnlmaaaDoor
open Go.RowKit

section
variable {A : Nat → Addr}
set_option maxRecDepth 20000 in
set_option maxHeartbeats 2000000 in
theorem idsNames_walk {A : Nat → Addr} (w : World) (hs : St14 A w) :
    Calls Tryd.prog 3 #[] w fun e w' => e = .returned (.bool true) ∧ Below w.heap.size w w' := by
  have G0 := IdW.start hs
  clear hs
  go_enter Tryd.func3, Tryd.ntmps3
  go_upto_region 2 with (first | (go_at_call 8; refine (new14_no G0 true (-1) (by decide)).mono ?_; rintro e w1 ⟨rfl, P1⟩) | fail)
  go_upto_region 3 with (first | (go_at_call 8; refine (new14_no P1 false 2147483648 (by decide)).mono ?_; rintro e w2 ⟨rfl, P2⟩) | fail)
  go_upto_region 4 with (first | (go_at_call 8; refine (new14 P2 true 2147483647 (by decide) (by decide)).mono ?_; rintro e w3 ⟨pc, own3, rfl, P3⟩) | fail)
  go_upto_region 5 with (first | (go_at_call 8; refine (new14 P3 false 2147483647 (by decide) (by decide)).mono ?_; rintro e w4 ⟨pd, own4, rfl, P4⟩) | fail)
  go_upto_region 6 with (first | (go_at_call 8; refine (new14 P4 false 2147483646 (by decide) (by decide)).mono ?_; rintro e w5 ⟨pe, own5, rfl, P5⟩) | fail)
  have CD := Aside.mk (code14 P5 (v := .iface 82 (.pointer (some (A 1)))) (k := 2) (hide (.mk 1 2 (by decide) (by decide) rfl)))
  go_upto_region 11 with (first
    | (go_at_call 9; refine CD.it.mono ?_; rintro e w' ⟨rfl, rfl⟩)
    | (go_at_call 10; refine (left14 P7 2 1 rfl (by decide)).mono ?_; rintro e w8 ⟨rfl, P8⟩)
    | (go_at_call 10; refine (left14 P6 1 0 rfl (by decide)).mono ?_; rintro e w7 ⟨rfl, P7⟩)
    | (go_at_call 10; refine (left14 P5 0 1 rfl (by decide)).mono ?_; rintro e w6 ⟨rfl, P6⟩)
    | fail)
  go_upto_region 12 with (first | (go_at_call 11; refine (next14 P8 0 4294967295 rfl rfl (by decide)).mono ?_; rintro e w9 ⟨rfl, P9⟩) | fail)
  go_upto_region 13 with (first | (go_at_call 11; refine (next14_no P9 0 rfl (by decide)).mono ?_; rintro e wa ⟨rfl, Pa⟩) | fail)
  go_upto_region 14 with (first | (go_at_call 11; refine (next14_no Pa 1 rfl (by decide)).mono ?_; rintro e wb ⟨rfl, Pb⟩) | fail)
  go_upto_region 15 with (first | (go_at_call 11; refine (next14 Pb 2 4294967294 rfl rfl (by decide)).mono ?_; rintro e wx ⟨rfl, Pc⟩) | fail)
  have CE := Aside.mk (code14 Pc (v := .iface 82 (.pointer (some (A 31)))) (k := 32) (hide (.mk 31 32 (by decide) (by decide) rfl)))
  go_wp2_with (first
    | (go_at_call 9; refine CE.it.mono ?_; rintro e w' ⟨rfl, rfl⟩)
    | (go_at_call 10; refine (left14 Pc 0 0 rfl (by decide)).mono ?_; rintro e wy ⟨rfl, Pd⟩)
    | fail)
  go_ret
  exact ⟨rfl, IdW.bel Pd⟩
end
end Go.Proofs.YthfedcebbnlmaaaDoor
