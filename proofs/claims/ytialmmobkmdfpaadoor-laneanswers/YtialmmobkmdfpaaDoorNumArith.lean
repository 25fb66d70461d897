/-
  package num's sums, the document's, and 'awake'.
-/
import Derived.Test.YtialmmobkmdfpaaDoorNumBytes
import Derived.Deep.QuietTactic
import Derived.BigQuiet
import Derived.WalkSmall
namespace Go.Proofs.YtialmmobkmdfpaaDoor
open Go.RowKit

theorem add_ok (a b : Int) (w : World) (ha : 0 ≤ a) (hb : 0 ≤ b) (h : a + b ≤ 4294967295) :
    Calls Tryd.prog 57 #[.int .u32 a, .int .u32 b] w fun e w' => e = .returned (.tuple #[.int .u32 (a + b), .nilIface]) ∧ w' = w := by
  have h' : ¬ 4294967295 - a < b := by omega
  go_enter Tryd.func57, Tryd.ntmps57
  go_wp2
  go_ret2
  exact ⟨rfl, rfl⟩
theorem add_over {A : Nat → Addr} (a b : Int) (w : World) (hs : Sents 134 codeVars A w) (ha : 0 ≤ a) (ha1 : a ≤ 4294967295) (h : ¬ a + b ≤ 4294967295) :
    Calls Tryd.prog 57 #[.int .u32 a, .int .u32 b] w fun e w' => e = .returned (.tuple #[.int .u32 0, .iface 134 (.pointer (some (A 3)))]) ∧ Below w.heap.size w w' := by
  have h' : 4294967295 - a < b := by omega
  have hc := hs.cell 3 10 rfl
  clear hs h
  go_enter Tryd.func57, Tryd.ntmps57
  go_wp2
  go_quiet (fail)
  go_wp2
  go_ret2
  exact ⟨rfl, below_drewN (Below.refl _ _) _⟩
end Go.Proofs.YtialmmobkmdfpaaDoor
