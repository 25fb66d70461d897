/-
  package num's sums, the document's, and 'awake'.
-/
import Derived.Test.YtkkfjbjlggkhiaaDoorNumBytes
import Derived.Deep.QuietTactic
import Derived.BigQuiet
import Derived.WalkSmall
namespace Go.Proofs.YtkkfjbjlggkhiaaDoor
open Go.RowKit

theorem add_ok (a b : Int) (w : World) (ha : 0 ≤ a) (hb : 0 ≤ b) (h : a + b ≤ 4294967295) :
    Calls Tryd.prog 41 #[.int .u32 a, .int .u32 b] w fun e w' => e = .returned (.tuple #[.int .u32 (a + b), .nilIface]) ∧ w' = w := by
  have h' : ¬ 4294967295 - a < b := by omega
  go_enter Tryd.func41, Tryd.ntmps41
  go_wp2
  go_ret2
  exact ⟨rfl, rfl⟩
theorem add_over {A : Nat → Addr} (a b : Int) (w : World) (hs : Sents 89 codeVars A w) (ha : 0 ≤ a) (ha1 : a ≤ 4294967295) (h : ¬ a + b ≤ 4294967295) :
    Calls Tryd.prog 41 #[.int .u32 a, .int .u32 b] w fun e w' => e = .returned (.tuple #[.int .u32 0, .iface 89 (.pointer (some (A 3)))]) ∧ Below w.heap.size w w' := by
  have h' : 4294967295 - a < b := by omega
  have hc := hs.cell 3 4 rfl
  clear hs h
  go_enter Tryd.func41, Tryd.ntmps41
  go_wp2
  go_quiet (fail)
  go_wp2
  go_ret2
  exact ⟨rfl, below_drewN (Below.refl _ _) _⟩
theorem sub_ok (a b : Int) (w : World) (ha : a ≤ 4294967295) (hb : 0 ≤ b) (h : b ≤ a) :
    Calls Tryd.prog 44 #[.int .u32 a, .int .u32 b] w fun e w' => e = .returned (.tuple #[.int .u32 (a - b), .nilIface]) ∧ w' = w := by
  have h' : ¬ a < b := by omega
  go_enter Tryd.func44, Tryd.ntmps44
  go_wp2
  go_ret2
  exact ⟨rfl, rfl⟩
theorem sub_under {A : Nat → Addr} (a b : Int) (w : World) (hs : Sents 89 codeVars A w) (h : ¬ b ≤ a) :
    Calls Tryd.prog 44 #[.int .u32 a, .int .u32 b] w fun e w' => e = .returned (.tuple #[.int .u32 0, .iface 89 (.pointer (some (A 4)))]) ∧ Below w.heap.size w w' := by
  have h' : a < b := by omega
  have hc := hs.cell 4 3 rfl
  clear hs h
  go_enter Tryd.func44, Tryd.ntmps44
  go_wp2
  go_quiet (fail)
  go_wp2
  go_ret2
  exact ⟨rfl, below_drewN (Below.refl _ _) _⟩
theorem narrow_ok (n : Int) (w : World) (h0 : 0 ≤ n) (h1 : n ≤ 4294967295) :
    Calls Tryd.prog 38 #[.int .i64 n] w fun e w' => e = .returned (.tuple #[.int .u32 n, .nilIface]) ∧ w' = w := by
  have h0' : ¬ n < 0 := by omega
  have h1' : ¬ 4294967295 < n := by omega
  go_enter Tryd.func38, Tryd.ntmps38
  go_wp2
  go_ret2
  exact ⟨rfl, rfl⟩
theorem narrow_no {A : Nat → Addr} (n : Int) (w : World) (hs : Sents 89 codeVars A w) (h : n < 0 ∨ 4294967295 < n) :
    Calls Tryd.prog 38 #[.int .i64 n] w fun e w' => e = .returned (.tuple #[.int .u32 0, .iface 89 (.pointer (some (A 1)))]) ∧ Below w.heap.size w w' := by
  have hc := hs.cell 1 0 rfl
  clear hs
  rcases h with h | h
  · go_enter Tryd.func38, Tryd.ntmps38
    go_wp2
    go_quiet (fail)
    go_wp2
    go_ret2
    exact ⟨rfl, below_drewN (Below.refl _ _) _⟩
  · have h0' : ¬ n < 0 := by omega
    go_enter Tryd.func38, Tryd.ntmps38
    go_wp2
    go_quiet (fail)
    go_wp2
    go_ret2
    exact ⟨rfl, below_drewN (Below.refl _ _) _⟩

end Go.Proofs.YtkkfjbjlggkhiaaDoor
