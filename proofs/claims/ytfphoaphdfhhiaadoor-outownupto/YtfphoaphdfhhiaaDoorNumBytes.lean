/-
  package num: Bytes16, Bytes32.
-/
import Derived.Test.YtfphoaphdfhhiaaDoorCode
import Derived.Test.YtfphoaphdfhhiaaDoorBase
import Derived.WalkLawsBesides
import Derived.WalkSpells
namespace Go.Proofs.YtfphoaphdfhhiaaDoor
open Go.RowKit

theorem u8size : (Tryd.prog.info? 5).map (·.size) = some 1 := by kernel_rfl

set_option maxHeartbeats 1000000 in
/-- Bytes16: two new blocks, the array and the list -/
theorem bytes16_any (v : Int) (w : World) (h0 : 0 ≤ v) (h1 : v ≤ 65535) :
    Calls Tryd.prog 40 #[.int .u16 v] w fun e w' => e = .returned (.slice (some ⟨w.heap.size + 1, 0, none⟩) 2 2) ∧
      w' = (w.alloc (.cells #[.int .u8 (v / 256), .int .u8 (v % 256)] 101)).alloc (.cells #[.int .u8 (v / 256), .int .u8 (v % 256)] 5) := by
  have hmk : ∀ w, (Instr.makeSlice 35 (.int .i64 2) (.int .i64 2)).run Tryd.prog w = .ok (.slice (some ⟨w.heap.size, 0, none⟩) 2 2) (w.alloc (.cells #[.int .u8 0, .int .u8 0] 5)) := fun _ => by kernel_rfl
  have hcp := run_copy_new (P := Tryd.prog) w 35 35 3 5 101 5 [.int .u8 (v / 256), .int .u8 (v % 256)] [.int .u8 0, .int .u8 0] 2 rfl rfl Tryd.underlying35 u8size (by simp [Value.oneCell'])
  go_enter Tryd.func40, Tryd.ntmps40
  go_wp2
  go_ret
  exact ⟨rfl, rfl⟩

set_option maxHeartbeats 1000000 in
/-- Bytes32 -/
theorem bytes32_any (v : Int) (w : World) (h0 : 0 ≤ v) (h1 : v ≤ 4294967295) :
    Calls Tryd.prog 41 #[.int .u32 v] w fun e w' => e = .returned (.slice (some ⟨w.heap.size + 1, 0, none⟩) 4 4) ∧
      w' = (w.alloc (.cells #[.int .u8 (v / 16777216), .int .u8 (v / 65536 % 256), .int .u8 (v / 256 % 256), .int .u8 (v % 256)] 102)).alloc (.cells #[.int .u8 (v / 16777216), .int .u8 (v / 65536 % 256), .int .u8 (v / 256 % 256), .int .u8 (v % 256)] 5) := by
  have hmk : ∀ w, (Instr.makeSlice 35 (.int .i64 4) (.int .i64 4)).run Tryd.prog w = .ok (.slice (some ⟨w.heap.size, 0, none⟩) 4 4) (w.alloc (.cells #[.int .u8 0, .int .u8 0, .int .u8 0, .int .u8 0] 5)) := fun _ => by kernel_rfl
  have hcp := run_copy_new (P := Tryd.prog) w 35 35 3 5 102 5 [.int .u8 (v / 16777216), .int .u8 (v / 65536 % 256), .int .u8 (v / 256 % 256), .int .u8 (v % 256)] [.int .u8 0, .int .u8 0, .int .u8 0, .int .u8 0] 4 rfl rfl Tryd.underlying35 u8size (by simp [Value.oneCell'])
  go_enter Tryd.func41, Tryd.ntmps41
  go_wp2
  go_ret
  exact ⟨rfl, rfl⟩
end Go.Proofs.YtfphoaphdfhhiaaDoor
