/-
  package num: Bytes16, Bytes32.
-/
import Derived.Test.YtialmmobkmdfpaaDoorCode
import Derived.Test.YtialmmobkmdfpaaDoorBase
import Derived.WalkLawsBesides
import Derived.WalkSpells
namespace Go.Proofs.YtialmmobkmdfpaaDoor
open Go.RowKit

theorem u8size : (Tryd.prog.info? 5).map (·.size) = some 1 := by kernel_rfl

set_option maxHeartbeats 1000000 in
/-- Bytes16: two new blocks, the array and the list -/
theorem bytes16_any (v : Int) (w : World) (h0 : 0 ≤ v) (h1 : v ≤ 65535) :
    Calls Tryd.prog 64 #[.int .u16 v] w fun e w' => e = .returned (.slice (some ⟨w.heap.size + 1, 0, none⟩) 2 2) ∧
      w' = (w.alloc (.cells #[.int .u8 (v / 256), .int .u8 (v % 256)] 132)).alloc (.cells #[.int .u8 (v / 256), .int .u8 (v % 256)] 5) := by
  have hmk : ∀ w, (Instr.makeSlice 55 (.int .i64 2) (.int .i64 2)).run Tryd.prog w = .ok (.slice (some ⟨w.heap.size, 0, none⟩) 2 2) (w.alloc (.cells #[.int .u8 0, .int .u8 0] 5)) := fun _ => by kernel_rfl
  have hcp := run_copy_new (P := Tryd.prog) w 55 55 3 5 132 5 [.int .u8 (v / 256), .int .u8 (v % 256)] [.int .u8 0, .int .u8 0] 2 rfl rfl Tryd.underlying55 u8size (by simp [Value.oneCell'])
  go_enter Tryd.func64, Tryd.ntmps64
  go_wp2
  go_ret
  exact ⟨rfl, rfl⟩

set_option maxHeartbeats 1000000 in
/-- Bytes32 -/
theorem bytes32_any (v : Int) (w : World) (h0 : 0 ≤ v) (h1 : v ≤ 4294967295) :
    Calls Tryd.prog 65 #[.int .u32 v] w fun e w' => e = .returned (.slice (some ⟨w.heap.size + 1, 0, none⟩) 4 4) ∧
      w' = (w.alloc (.cells #[.int .u8 (v / 16777216), .int .u8 (v / 65536 % 256), .int .u8 (v / 256 % 256), .int .u8 (v % 256)] 133)).alloc (.cells #[.int .u8 (v / 16777216), .int .u8 (v / 65536 % 256), .int .u8 (v / 256 % 256), .int .u8 (v % 256)] 5) := by
  have hmk : ∀ w, (Instr.makeSlice 55 (.int .i64 4) (.int .i64 4)).run Tryd.prog w = .ok (.slice (some ⟨w.heap.size, 0, none⟩) 4 4) (w.alloc (.cells #[.int .u8 0, .int .u8 0, .int .u8 0, .int .u8 0] 5)) := fun _ => by kernel_rfl
  have hcp := run_copy_new (P := Tryd.prog) w 55 55 3 5 133 5 [.int .u8 (v / 16777216), .int .u8 (v / 65536 % 256), .int .u8 (v / 256 % 256), .int .u8 (v % 256)] [.int .u8 0, .int .u8 0, .int .u8 0, .int .u8 0] 4 rfl rfl Tryd.underlying55 u8size (by simp [Value.oneCell'])
  go_enter Tryd.func65, Tryd.ntmps65
  go_wp2
  go_ret
  exact ⟨rfl, rfl⟩
end Go.Proofs.YtialmmobkmdfpaaDoor
