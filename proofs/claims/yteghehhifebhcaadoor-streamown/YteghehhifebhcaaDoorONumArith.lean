/-
  package num's sums, the document's, and 'awake'.
-/
import Derived.Test.YteghehhifebhcaaDoorONumBytes
import Derived.Deep.QuietTactic
import Derived.BigQuiet
import Derived.WalkSmall
namespace Go.Proofs.YteghehhifebhcaaDoor
open Go.RowKit

theorem add_ok (a b : Int) (w : World) (ha : 0 ≤ a) (hb : 0 ≤ b) (h : a + b ≤ 4294967295) :
    Calls Tryd.prog 69 #[.int .u32 a, .int .u32 b] w fun e w' => e = .returned (.tuple #[.int .u32 (a + b), .nilIface]) ∧ w' = w := by
  have h' : ¬ 4294967295 - a < b := by omega
  go_enter Tryd.func69, Tryd.ntmps69
  go_wp2
  go_ret2
  exact ⟨rfl, rfl⟩
theorem sub_ok (a b : Int) (w : World) (ha : a ≤ 4294967295) (hb : 0 ≤ b) (h : b ≤ a) :
    Calls Tryd.prog 88 #[.int .u32 a, .int .u32 b] w fun e w' => e = .returned (.tuple #[.int .u32 (a - b), .nilIface]) ∧ w' = w := by
  have h' : ¬ a < b := by omega
  go_enter Tryd.func88, Tryd.ntmps88
  go_wp2
  go_ret2
  exact ⟨rfl, rfl⟩
theorem sub_under {A : Nat → Addr} (a b : Int) (w : World) (hs : SentO A w) (h : ¬ b ≤ a) :
    Calls Tryd.prog 88 #[.int .u32 a, .int .u32 b] w fun e w' => e = .returned (.tuple #[.int .u32 0, .iface 156 (.pointer (some (A 4)))]) ∧ Below w.heap.size w w' := by
  have h' : a < b := by omega
  have hc := hs.cell 4 7 rfl
  clear hs h
  go_enter Tryd.func88, Tryd.ntmps88
  go_wp2
  go_quiet (fail)
  go_wp2
  go_ret2
  exact ⟨rfl, below_drewN (Below.refl _ _) _⟩
theorem narrow_ok (n : Int) (w : World) (h0 : 0 ≤ n) (h1 : n ≤ 4294967295) :
    Calls Tryd.prog 87 #[.int .i64 n] w fun e w' => e = .returned (.tuple #[.int .u32 n, .nilIface]) ∧ w' = w := by
  have h0' : ¬ n < 0 := by omega
  have h1' : ¬ 4294967295 < n := by omega
  go_enter Tryd.func87, Tryd.ntmps87
  go_wp2
  go_ret2
  exact ⟨rfl, rfl⟩
theorem narrow_no {A : Nat → Addr} (n : Int) (w : World) (hs : SentO A w) (h : n < 0 ∨ 4294967295 < n) :
    Calls Tryd.prog 87 #[.int .i64 n] w fun e w' => e = .returned (.tuple #[.int .u32 0, .iface 156 (.pointer (some (A 1)))]) ∧ Below w.heap.size w w' := by
  have hc := hs.cell 1 0 rfl
  clear hs
  rcases h with h | h
  · go_enter Tryd.func87, Tryd.ntmps87
    go_wp2
    go_quiet (fail)
    go_wp2
    go_ret2
    exact ⟨rfl, below_drewN (Below.refl _ _) _⟩
  · have h0' : ¬ n < 0 := by omega
    go_enter Tryd.func87, Tryd.ntmps87
    go_wp2
    go_quiet (fail)
    go_wp2
    go_ret2
    exact ⟨rfl, below_drewN (Below.refl _ _) _⟩

end Go.Proofs.YteghehhifebhcaaDoor
