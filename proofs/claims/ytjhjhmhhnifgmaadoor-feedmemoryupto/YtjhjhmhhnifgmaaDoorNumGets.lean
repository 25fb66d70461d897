/-
  the document's Get, Bytes
-/
import Derived.Test.YtjhjhmhhnifgmaaDoorNumGet0
import Derived.Test.YtjhjhmhhnifgmaaDoorSameBytes
namespace Go.Proofs.YtjhjhmhhnifgmaaDoor
open Go.RowKit

theorem refGet_short (a : Option Addr) (len cap n : Nat) (w : World) (h : len < n) :
    Calls Tryd.prog 29 #[.slice a len cap, .int .i64 n] w fun e w' => e = .returned (.tuple #[.int .i64 0, .int .i64 3]) ∧ w' = w := by
  have h' : (len : Int) < (n : Int) := by omega
  go_enter Tryd.func29, Tryd.ntmps29
  go_wp2
  go_ret2
  exact ⟨rfl, rfl⟩
set_option maxHeartbeats 1000000 in
theorem refGet_ok2 (b o : Nat) (len cap : Nat) (w : World) (n0 n1 : Int) (h : 2 ≤ len)
    (c0 : w.cell? ⟨b, o, none⟩ = some (.int .u8 n0)) (c1 : w.cell? ⟨b, o + 1, none⟩ = some (.int .u8 n1)) (b0 : 0 ≤ n0) (b0' : n0 ≤ 255) (b1 : 0 ≤ n1) (b1' : n1 ≤ 255) :
    Calls Tryd.prog 29 #[.slice (some ⟨b, o, none⟩) len cap, .int .i64 2] w fun e w' => e = .returned (.tuple #[.int .i64 (n0 * 256 + n1), .int .i64 0]) ∧ w' = w := by
  have h' : ¬ (len : Int) < 2 := by omega
  have l0 : (0 : Int) < (len : Int) := by omega
  have l1 : (1 : Int) < (len : Int) := by omega
  go_enter Tryd.func29, Tryd.ntmps29
  go_wp2
  refine wp_loop_rounds 3 ?_
  rw [rounds_succ]
  go_wp2
  rw [rounds_succ]
  go_wp2
  rw [rounds_succ]
  go_wp2
  go_ret2
  exact ⟨rfl, rfl⟩
set_option maxHeartbeats 2000000 in
theorem refGet_ok4 (b o : Nat) (len cap : Nat) (w : World) (n0 n1 n2 n3 : Int) (h : 4 ≤ len)
    (c0 : w.cell? ⟨b, o, none⟩ = some (.int .u8 n0)) (c1 : w.cell? ⟨b, o + 1, none⟩ = some (.int .u8 n1)) (c2 : w.cell? ⟨b, o + 2, none⟩ = some (.int .u8 n2)) (c3 : w.cell? ⟨b, o + 3, none⟩ = some (.int .u8 n3))
    (b0 : 0 ≤ n0) (b0' : n0 ≤ 255) (b1 : 0 ≤ n1) (b1' : n1 ≤ 255) (b2 : 0 ≤ n2) (b2' : n2 ≤ 255) (b3 : 0 ≤ n3) (b3' : n3 ≤ 255) :
    Calls Tryd.prog 29 #[.slice (some ⟨b, o, none⟩) len cap, .int .i64 4] w fun e w' => e = .returned (.tuple #[.int .i64 (((n0 * 256 + n1) * 256 + n2) * 256 + n3), .int .i64 0]) ∧ w' = w := by
  have h' : ¬ (len : Int) < 4 := by omega
  have l0 : (0 : Int) < (len : Int) := by omega
  have l1 : (1 : Int) < (len : Int) := by omega
  have l2 : (2 : Int) < (len : Int) := by omega
  have l3 : (3 : Int) < (len : Int) := by omega
  go_enter Tryd.func29, Tryd.ntmps29
  go_wp2
  refine wp_loop_rounds 5 ?_
  rw [rounds_succ]
  go_wp2
  rw [rounds_succ]
  go_wp2
  rw [rounds_succ]
  go_wp2
  rw [rounds_succ]
  go_wp2
  rw [rounds_succ]
  go_wp2
  go_ret2
  exact ⟨rfl, rfl⟩

end Go.Proofs.YtjhjhmhhnifgmaaDoor
