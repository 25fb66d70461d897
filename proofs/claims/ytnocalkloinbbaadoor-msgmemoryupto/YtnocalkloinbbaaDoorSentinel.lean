/-
  culvertlaw's 'sentinel': the sentinel of a number.
-/
import Derived.Test.YtnocalkloinbbaaDoorIs
namespace Go.Proofs.YtnocalkloinbbaaDoor
open Go.RowKit

/-- the listed variables' numbers, in the order of the codes -/
def codeVars : List Nat := [1, 0, 4, 5, 6, 7, 8, 9, 10, 11, 12, 13, 14, 15, 3, 16, 17, 18, 19, 20, 21, 22, 23, 24, 25, 26, 27, 28, 29, 30, 31, 32, 33, 2, 34, 35, 36, 37, 38, 39, 40, 41]

set_option maxHeartbeats 2000000 in
set_option maxRecDepth 100000 in
theorem sentinel_lit1 (a : Addr) (w : World) (hc : w.cell? ⟨1, 0, none⟩ = some (.iface 74 (.pointer (some a)))) :
    Calls Tryd.prog 23 #[.int .i64 1] w fun e w' => e = .returned (.iface 74 (.pointer (some a))) ∧ w' = w := by
  go_enter Tryd.func23, Tryd.ntmps23
  go_wp2
  go_ret
  exact ⟨rfl, rfl⟩
set_option maxHeartbeats 2000000 in
set_option maxRecDepth 100000 in
theorem sentinel_lit2 (a : Addr) (w : World) (hc : w.cell? ⟨0, 0, none⟩ = some (.iface 74 (.pointer (some a)))) :
    Calls Tryd.prog 23 #[.int .i64 2] w fun e w' => e = .returned (.iface 74 (.pointer (some a))) ∧ w' = w := by
  go_enter Tryd.func23, Tryd.ntmps23
  go_wp2
  go_ret
  exact ⟨rfl, rfl⟩
set_option maxHeartbeats 2000000 in
set_option maxRecDepth 100000 in
theorem sentinel_lit3 (a : Addr) (w : World) (hc : w.cell? ⟨4, 0, none⟩ = some (.iface 74 (.pointer (some a)))) :
    Calls Tryd.prog 23 #[.int .i64 3] w fun e w' => e = .returned (.iface 74 (.pointer (some a))) ∧ w' = w := by
  go_enter Tryd.func23, Tryd.ntmps23
  go_wp2
  go_ret
  exact ⟨rfl, rfl⟩
set_option maxHeartbeats 2000000 in
set_option maxRecDepth 100000 in
theorem sentinel_lit4 (a : Addr) (w : World) (hc : w.cell? ⟨5, 0, none⟩ = some (.iface 74 (.pointer (some a)))) :
    Calls Tryd.prog 23 #[.int .i64 4] w fun e w' => e = .returned (.iface 74 (.pointer (some a))) ∧ w' = w := by
  go_enter Tryd.func23, Tryd.ntmps23
  go_wp2
  go_ret
  exact ⟨rfl, rfl⟩
set_option maxHeartbeats 2000000 in
set_option maxRecDepth 100000 in
theorem sentinel_lit5 (a : Addr) (w : World) (hc : w.cell? ⟨6, 0, none⟩ = some (.iface 74 (.pointer (some a)))) :
    Calls Tryd.prog 23 #[.int .i64 5] w fun e w' => e = .returned (.iface 74 (.pointer (some a))) ∧ w' = w := by
  go_enter Tryd.func23, Tryd.ntmps23
  go_wp2
  go_ret
  exact ⟨rfl, rfl⟩
set_option maxHeartbeats 2000000 in
set_option maxRecDepth 100000 in
theorem sentinel_lit6 (a : Addr) (w : World) (hc : w.cell? ⟨7, 0, none⟩ = some (.iface 74 (.pointer (some a)))) :
    Calls Tryd.prog 23 #[.int .i64 6] w fun e w' => e = .returned (.iface 74 (.pointer (some a))) ∧ w' = w := by
  go_enter Tryd.func23, Tryd.ntmps23
  go_wp2
  go_ret
  exact ⟨rfl, rfl⟩
set_option maxHeartbeats 2000000 in
set_option maxRecDepth 100000 in
theorem sentinel_lit7 (a : Addr) (w : World) (hc : w.cell? ⟨8, 0, none⟩ = some (.iface 74 (.pointer (some a)))) :
    Calls Tryd.prog 23 #[.int .i64 7] w fun e w' => e = .returned (.iface 74 (.pointer (some a))) ∧ w' = w := by
  go_enter Tryd.func23, Tryd.ntmps23
  go_wp2
  go_ret
  exact ⟨rfl, rfl⟩
set_option maxHeartbeats 2000000 in
set_option maxRecDepth 100000 in
theorem sentinel_lit8 (a : Addr) (w : World) (hc : w.cell? ⟨9, 0, none⟩ = some (.iface 74 (.pointer (some a)))) :
    Calls Tryd.prog 23 #[.int .i64 8] w fun e w' => e = .returned (.iface 74 (.pointer (some a))) ∧ w' = w := by
  go_enter Tryd.func23, Tryd.ntmps23
  go_wp2
  go_ret
  exact ⟨rfl, rfl⟩
set_option maxHeartbeats 2000000 in
set_option maxRecDepth 100000 in
theorem sentinel_lit9 (a : Addr) (w : World) (hc : w.cell? ⟨10, 0, none⟩ = some (.iface 74 (.pointer (some a)))) :
    Calls Tryd.prog 23 #[.int .i64 9] w fun e w' => e = .returned (.iface 74 (.pointer (some a))) ∧ w' = w := by
  go_enter Tryd.func23, Tryd.ntmps23
  go_wp2
  go_ret
  exact ⟨rfl, rfl⟩
set_option maxHeartbeats 2000000 in
set_option maxRecDepth 100000 in
theorem sentinel_lit10 (a : Addr) (w : World) (hc : w.cell? ⟨11, 0, none⟩ = some (.iface 74 (.pointer (some a)))) :
    Calls Tryd.prog 23 #[.int .i64 10] w fun e w' => e = .returned (.iface 74 (.pointer (some a))) ∧ w' = w := by
  go_enter Tryd.func23, Tryd.ntmps23
  go_wp2
  go_ret
  exact ⟨rfl, rfl⟩
set_option maxHeartbeats 2000000 in
set_option maxRecDepth 100000 in
theorem sentinel_lit11 (a : Addr) (w : World) (hc : w.cell? ⟨12, 0, none⟩ = some (.iface 74 (.pointer (some a)))) :
    Calls Tryd.prog 23 #[.int .i64 11] w fun e w' => e = .returned (.iface 74 (.pointer (some a))) ∧ w' = w := by
  go_enter Tryd.func23, Tryd.ntmps23
  go_wp2
  go_ret
  exact ⟨rfl, rfl⟩
set_option maxHeartbeats 2000000 in
set_option maxRecDepth 100000 in
theorem sentinel_lit12 (a : Addr) (w : World) (hc : w.cell? ⟨13, 0, none⟩ = some (.iface 74 (.pointer (some a)))) :
    Calls Tryd.prog 23 #[.int .i64 12] w fun e w' => e = .returned (.iface 74 (.pointer (some a))) ∧ w' = w := by
  go_enter Tryd.func23, Tryd.ntmps23
  go_wp2
  go_ret
  exact ⟨rfl, rfl⟩
set_option maxHeartbeats 2000000 in
set_option maxRecDepth 100000 in
theorem sentinel_lit13 (a : Addr) (w : World) (hc : w.cell? ⟨14, 0, none⟩ = some (.iface 74 (.pointer (some a)))) :
    Calls Tryd.prog 23 #[.int .i64 13] w fun e w' => e = .returned (.iface 74 (.pointer (some a))) ∧ w' = w := by
  go_enter Tryd.func23, Tryd.ntmps23
  go_wp2
  go_ret
  exact ⟨rfl, rfl⟩
set_option maxHeartbeats 2000000 in
set_option maxRecDepth 100000 in
theorem sentinel_lit14 (a : Addr) (w : World) (hc : w.cell? ⟨15, 0, none⟩ = some (.iface 74 (.pointer (some a)))) :
    Calls Tryd.prog 23 #[.int .i64 14] w fun e w' => e = .returned (.iface 74 (.pointer (some a))) ∧ w' = w := by
  go_enter Tryd.func23, Tryd.ntmps23
  go_wp2
  go_ret
  exact ⟨rfl, rfl⟩
set_option maxHeartbeats 2000000 in
set_option maxRecDepth 100000 in
theorem sentinel_lit15 (a : Addr) (w : World) (hc : w.cell? ⟨3, 0, none⟩ = some (.iface 74 (.pointer (some a)))) :
    Calls Tryd.prog 23 #[.int .i64 15] w fun e w' => e = .returned (.iface 74 (.pointer (some a))) ∧ w' = w := by
  go_enter Tryd.func23, Tryd.ntmps23
  go_wp2
  go_ret
  exact ⟨rfl, rfl⟩
set_option maxHeartbeats 2000000 in
set_option maxRecDepth 100000 in
theorem sentinel_lit16 (a : Addr) (w : World) (hc : w.cell? ⟨16, 0, none⟩ = some (.iface 74 (.pointer (some a)))) :
    Calls Tryd.prog 23 #[.int .i64 16] w fun e w' => e = .returned (.iface 74 (.pointer (some a))) ∧ w' = w := by
  go_enter Tryd.func23, Tryd.ntmps23
  go_wp2
  go_ret
  exact ⟨rfl, rfl⟩
set_option maxHeartbeats 2000000 in
set_option maxRecDepth 100000 in
theorem sentinel_lit17 (a : Addr) (w : World) (hc : w.cell? ⟨17, 0, none⟩ = some (.iface 74 (.pointer (some a)))) :
    Calls Tryd.prog 23 #[.int .i64 17] w fun e w' => e = .returned (.iface 74 (.pointer (some a))) ∧ w' = w := by
  go_enter Tryd.func23, Tryd.ntmps23
  go_wp2
  go_ret
  exact ⟨rfl, rfl⟩
set_option maxHeartbeats 2000000 in
set_option maxRecDepth 100000 in
theorem sentinel_lit18 (a : Addr) (w : World) (hc : w.cell? ⟨18, 0, none⟩ = some (.iface 74 (.pointer (some a)))) :
    Calls Tryd.prog 23 #[.int .i64 18] w fun e w' => e = .returned (.iface 74 (.pointer (some a))) ∧ w' = w := by
  go_enter Tryd.func23, Tryd.ntmps23
  go_wp2
  go_ret
  exact ⟨rfl, rfl⟩
set_option maxHeartbeats 2000000 in
set_option maxRecDepth 100000 in
theorem sentinel_lit19 (a : Addr) (w : World) (hc : w.cell? ⟨19, 0, none⟩ = some (.iface 74 (.pointer (some a)))) :
    Calls Tryd.prog 23 #[.int .i64 19] w fun e w' => e = .returned (.iface 74 (.pointer (some a))) ∧ w' = w := by
  go_enter Tryd.func23, Tryd.ntmps23
  go_wp2
  go_ret
  exact ⟨rfl, rfl⟩
set_option maxHeartbeats 2000000 in
set_option maxRecDepth 100000 in
theorem sentinel_lit20 (a : Addr) (w : World) (hc : w.cell? ⟨20, 0, none⟩ = some (.iface 74 (.pointer (some a)))) :
    Calls Tryd.prog 23 #[.int .i64 20] w fun e w' => e = .returned (.iface 74 (.pointer (some a))) ∧ w' = w := by
  go_enter Tryd.func23, Tryd.ntmps23
  go_wp2
  go_ret
  exact ⟨rfl, rfl⟩
set_option maxHeartbeats 2000000 in
set_option maxRecDepth 100000 in
theorem sentinel_lit21 (a : Addr) (w : World) (hc : w.cell? ⟨21, 0, none⟩ = some (.iface 74 (.pointer (some a)))) :
    Calls Tryd.prog 23 #[.int .i64 21] w fun e w' => e = .returned (.iface 74 (.pointer (some a))) ∧ w' = w := by
  go_enter Tryd.func23, Tryd.ntmps23
  go_wp2
  go_ret
  exact ⟨rfl, rfl⟩
set_option maxHeartbeats 2000000 in
set_option maxRecDepth 100000 in
theorem sentinel_lit22 (a : Addr) (w : World) (hc : w.cell? ⟨22, 0, none⟩ = some (.iface 74 (.pointer (some a)))) :
    Calls Tryd.prog 23 #[.int .i64 22] w fun e w' => e = .returned (.iface 74 (.pointer (some a))) ∧ w' = w := by
  go_enter Tryd.func23, Tryd.ntmps23
  go_wp2
  go_ret
  exact ⟨rfl, rfl⟩
set_option maxHeartbeats 2000000 in
set_option maxRecDepth 100000 in
theorem sentinel_lit23 (a : Addr) (w : World) (hc : w.cell? ⟨23, 0, none⟩ = some (.iface 74 (.pointer (some a)))) :
    Calls Tryd.prog 23 #[.int .i64 23] w fun e w' => e = .returned (.iface 74 (.pointer (some a))) ∧ w' = w := by
  go_enter Tryd.func23, Tryd.ntmps23
  go_wp2
  go_ret
  exact ⟨rfl, rfl⟩
set_option maxHeartbeats 2000000 in
set_option maxRecDepth 100000 in
theorem sentinel_lit24 (a : Addr) (w : World) (hc : w.cell? ⟨24, 0, none⟩ = some (.iface 74 (.pointer (some a)))) :
    Calls Tryd.prog 23 #[.int .i64 24] w fun e w' => e = .returned (.iface 74 (.pointer (some a))) ∧ w' = w := by
  go_enter Tryd.func23, Tryd.ntmps23
  go_wp2
  go_ret
  exact ⟨rfl, rfl⟩
set_option maxHeartbeats 2000000 in
set_option maxRecDepth 100000 in
theorem sentinel_lit25 (a : Addr) (w : World) (hc : w.cell? ⟨25, 0, none⟩ = some (.iface 74 (.pointer (some a)))) :
    Calls Tryd.prog 23 #[.int .i64 25] w fun e w' => e = .returned (.iface 74 (.pointer (some a))) ∧ w' = w := by
  go_enter Tryd.func23, Tryd.ntmps23
  go_wp2
  go_ret
  exact ⟨rfl, rfl⟩
set_option maxHeartbeats 2000000 in
set_option maxRecDepth 100000 in
theorem sentinel_lit26 (a : Addr) (w : World) (hc : w.cell? ⟨26, 0, none⟩ = some (.iface 74 (.pointer (some a)))) :
    Calls Tryd.prog 23 #[.int .i64 26] w fun e w' => e = .returned (.iface 74 (.pointer (some a))) ∧ w' = w := by
  go_enter Tryd.func23, Tryd.ntmps23
  go_wp2
  go_ret
  exact ⟨rfl, rfl⟩
set_option maxHeartbeats 2000000 in
set_option maxRecDepth 100000 in
theorem sentinel_lit27 (a : Addr) (w : World) (hc : w.cell? ⟨27, 0, none⟩ = some (.iface 74 (.pointer (some a)))) :
    Calls Tryd.prog 23 #[.int .i64 27] w fun e w' => e = .returned (.iface 74 (.pointer (some a))) ∧ w' = w := by
  go_enter Tryd.func23, Tryd.ntmps23
  go_wp2
  go_ret
  exact ⟨rfl, rfl⟩
set_option maxHeartbeats 2000000 in
set_option maxRecDepth 100000 in
theorem sentinel_lit28 (a : Addr) (w : World) (hc : w.cell? ⟨28, 0, none⟩ = some (.iface 74 (.pointer (some a)))) :
    Calls Tryd.prog 23 #[.int .i64 28] w fun e w' => e = .returned (.iface 74 (.pointer (some a))) ∧ w' = w := by
  go_enter Tryd.func23, Tryd.ntmps23
  go_wp2
  go_ret
  exact ⟨rfl, rfl⟩
set_option maxHeartbeats 2000000 in
set_option maxRecDepth 100000 in
theorem sentinel_lit29 (a : Addr) (w : World) (hc : w.cell? ⟨29, 0, none⟩ = some (.iface 74 (.pointer (some a)))) :
    Calls Tryd.prog 23 #[.int .i64 29] w fun e w' => e = .returned (.iface 74 (.pointer (some a))) ∧ w' = w := by
  go_enter Tryd.func23, Tryd.ntmps23
  go_wp2
  go_ret
  exact ⟨rfl, rfl⟩
set_option maxHeartbeats 2000000 in
set_option maxRecDepth 100000 in
theorem sentinel_lit30 (a : Addr) (w : World) (hc : w.cell? ⟨30, 0, none⟩ = some (.iface 74 (.pointer (some a)))) :
    Calls Tryd.prog 23 #[.int .i64 30] w fun e w' => e = .returned (.iface 74 (.pointer (some a))) ∧ w' = w := by
  go_enter Tryd.func23, Tryd.ntmps23
  go_wp2
  go_ret
  exact ⟨rfl, rfl⟩
set_option maxHeartbeats 2000000 in
set_option maxRecDepth 100000 in
theorem sentinel_lit31 (a : Addr) (w : World) (hc : w.cell? ⟨31, 0, none⟩ = some (.iface 74 (.pointer (some a)))) :
    Calls Tryd.prog 23 #[.int .i64 31] w fun e w' => e = .returned (.iface 74 (.pointer (some a))) ∧ w' = w := by
  go_enter Tryd.func23, Tryd.ntmps23
  go_wp2
  go_ret
  exact ⟨rfl, rfl⟩
set_option maxHeartbeats 2000000 in
set_option maxRecDepth 100000 in
theorem sentinel_lit32 (a : Addr) (w : World) (hc : w.cell? ⟨32, 0, none⟩ = some (.iface 74 (.pointer (some a)))) :
    Calls Tryd.prog 23 #[.int .i64 32] w fun e w' => e = .returned (.iface 74 (.pointer (some a))) ∧ w' = w := by
  go_enter Tryd.func23, Tryd.ntmps23
  go_wp2
  go_ret
  exact ⟨rfl, rfl⟩
set_option maxHeartbeats 2000000 in
set_option maxRecDepth 100000 in
theorem sentinel_lit33 (a : Addr) (w : World) (hc : w.cell? ⟨33, 0, none⟩ = some (.iface 74 (.pointer (some a)))) :
    Calls Tryd.prog 23 #[.int .i64 33] w fun e w' => e = .returned (.iface 74 (.pointer (some a))) ∧ w' = w := by
  go_enter Tryd.func23, Tryd.ntmps23
  go_wp2
  go_ret
  exact ⟨rfl, rfl⟩
set_option maxHeartbeats 2000000 in
set_option maxRecDepth 100000 in
theorem sentinel_lit34 (a : Addr) (w : World) (hc : w.cell? ⟨2, 0, none⟩ = some (.iface 74 (.pointer (some a)))) :
    Calls Tryd.prog 23 #[.int .i64 34] w fun e w' => e = .returned (.iface 74 (.pointer (some a))) ∧ w' = w := by
  go_enter Tryd.func23, Tryd.ntmps23
  go_wp2
  go_ret
  exact ⟨rfl, rfl⟩
set_option maxHeartbeats 2000000 in
set_option maxRecDepth 100000 in
theorem sentinel_lit35 (a : Addr) (w : World) (hc : w.cell? ⟨34, 0, none⟩ = some (.iface 74 (.pointer (some a)))) :
    Calls Tryd.prog 23 #[.int .i64 35] w fun e w' => e = .returned (.iface 74 (.pointer (some a))) ∧ w' = w := by
  go_enter Tryd.func23, Tryd.ntmps23
  go_wp2
  go_ret
  exact ⟨rfl, rfl⟩
set_option maxHeartbeats 2000000 in
set_option maxRecDepth 100000 in
theorem sentinel_lit36 (a : Addr) (w : World) (hc : w.cell? ⟨35, 0, none⟩ = some (.iface 74 (.pointer (some a)))) :
    Calls Tryd.prog 23 #[.int .i64 36] w fun e w' => e = .returned (.iface 74 (.pointer (some a))) ∧ w' = w := by
  go_enter Tryd.func23, Tryd.ntmps23
  go_wp2
  go_ret
  exact ⟨rfl, rfl⟩
set_option maxHeartbeats 2000000 in
set_option maxRecDepth 100000 in
theorem sentinel_lit37 (a : Addr) (w : World) (hc : w.cell? ⟨36, 0, none⟩ = some (.iface 74 (.pointer (some a)))) :
    Calls Tryd.prog 23 #[.int .i64 37] w fun e w' => e = .returned (.iface 74 (.pointer (some a))) ∧ w' = w := by
  go_enter Tryd.func23, Tryd.ntmps23
  go_wp2
  go_ret
  exact ⟨rfl, rfl⟩
set_option maxHeartbeats 2000000 in
set_option maxRecDepth 100000 in
theorem sentinel_lit38 (a : Addr) (w : World) (hc : w.cell? ⟨37, 0, none⟩ = some (.iface 74 (.pointer (some a)))) :
    Calls Tryd.prog 23 #[.int .i64 38] w fun e w' => e = .returned (.iface 74 (.pointer (some a))) ∧ w' = w := by
  go_enter Tryd.func23, Tryd.ntmps23
  go_wp2
  go_ret
  exact ⟨rfl, rfl⟩
set_option maxHeartbeats 2000000 in
set_option maxRecDepth 100000 in
theorem sentinel_lit39 (a : Addr) (w : World) (hc : w.cell? ⟨38, 0, none⟩ = some (.iface 74 (.pointer (some a)))) :
    Calls Tryd.prog 23 #[.int .i64 39] w fun e w' => e = .returned (.iface 74 (.pointer (some a))) ∧ w' = w := by
  go_enter Tryd.func23, Tryd.ntmps23
  go_wp2
  go_ret
  exact ⟨rfl, rfl⟩
set_option maxHeartbeats 2000000 in
set_option maxRecDepth 100000 in
theorem sentinel_lit40 (a : Addr) (w : World) (hc : w.cell? ⟨39, 0, none⟩ = some (.iface 74 (.pointer (some a)))) :
    Calls Tryd.prog 23 #[.int .i64 40] w fun e w' => e = .returned (.iface 74 (.pointer (some a))) ∧ w' = w := by
  go_enter Tryd.func23, Tryd.ntmps23
  go_wp2
  go_ret
  exact ⟨rfl, rfl⟩
set_option maxHeartbeats 2000000 in
set_option maxRecDepth 100000 in
theorem sentinel_lit41 (a : Addr) (w : World) (hc : w.cell? ⟨40, 0, none⟩ = some (.iface 74 (.pointer (some a)))) :
    Calls Tryd.prog 23 #[.int .i64 41] w fun e w' => e = .returned (.iface 74 (.pointer (some a))) ∧ w' = w := by
  go_enter Tryd.func23, Tryd.ntmps23
  go_wp2
  go_ret
  exact ⟨rfl, rfl⟩
set_option maxHeartbeats 2000000 in
set_option maxRecDepth 100000 in
theorem sentinel_lit42 (a : Addr) (w : World) (hc : w.cell? ⟨41, 0, none⟩ = some (.iface 74 (.pointer (some a)))) :
    Calls Tryd.prog 23 #[.int .i64 42] w fun e w' => e = .returned (.iface 74 (.pointer (some a))) ∧ w' = w := by
  go_enter Tryd.func23, Tryd.ntmps23
  go_wp2
  go_ret
  exact ⟨rfl, rfl⟩

theorem sentinel_at {A : Nat → Addr} {w : World} (h : Sents 74 codeVars A w) (n : Nat) (h2 : n < 42) :
    Calls Tryd.prog 23 #[.int .i64 ((n : Int) + 1)] w fun e w' => e = .returned (.iface 74 (.pointer (some (A n)))) ∧ w' = w := by
  match n, h2 with
  | 0, _ => exact sentinel_lit1 (A 0) w (h.cell 0 1 rfl)
  | 1, _ => exact sentinel_lit2 (A 1) w (h.cell 1 0 rfl)
  | 2, _ => exact sentinel_lit3 (A 2) w (h.cell 2 4 rfl)
  | 3, _ => exact sentinel_lit4 (A 3) w (h.cell 3 5 rfl)
  | 4, _ => exact sentinel_lit5 (A 4) w (h.cell 4 6 rfl)
  | 5, _ => exact sentinel_lit6 (A 5) w (h.cell 5 7 rfl)
  | 6, _ => exact sentinel_lit7 (A 6) w (h.cell 6 8 rfl)
  | 7, _ => exact sentinel_lit8 (A 7) w (h.cell 7 9 rfl)
  | 8, _ => exact sentinel_lit9 (A 8) w (h.cell 8 10 rfl)
  | 9, _ => exact sentinel_lit10 (A 9) w (h.cell 9 11 rfl)
  | 10, _ => exact sentinel_lit11 (A 10) w (h.cell 10 12 rfl)
  | 11, _ => exact sentinel_lit12 (A 11) w (h.cell 11 13 rfl)
  | 12, _ => exact sentinel_lit13 (A 12) w (h.cell 12 14 rfl)
  | 13, _ => exact sentinel_lit14 (A 13) w (h.cell 13 15 rfl)
  | 14, _ => exact sentinel_lit15 (A 14) w (h.cell 14 3 rfl)
  | 15, _ => exact sentinel_lit16 (A 15) w (h.cell 15 16 rfl)
  | 16, _ => exact sentinel_lit17 (A 16) w (h.cell 16 17 rfl)
  | 17, _ => exact sentinel_lit18 (A 17) w (h.cell 17 18 rfl)
  | 18, _ => exact sentinel_lit19 (A 18) w (h.cell 18 19 rfl)
  | 19, _ => exact sentinel_lit20 (A 19) w (h.cell 19 20 rfl)
  | 20, _ => exact sentinel_lit21 (A 20) w (h.cell 20 21 rfl)
  | 21, _ => exact sentinel_lit22 (A 21) w (h.cell 21 22 rfl)
  | 22, _ => exact sentinel_lit23 (A 22) w (h.cell 22 23 rfl)
  | 23, _ => exact sentinel_lit24 (A 23) w (h.cell 23 24 rfl)
  | 24, _ => exact sentinel_lit25 (A 24) w (h.cell 24 25 rfl)
  | 25, _ => exact sentinel_lit26 (A 25) w (h.cell 25 26 rfl)
  | 26, _ => exact sentinel_lit27 (A 26) w (h.cell 26 27 rfl)
  | 27, _ => exact sentinel_lit28 (A 27) w (h.cell 27 28 rfl)
  | 28, _ => exact sentinel_lit29 (A 28) w (h.cell 28 29 rfl)
  | 29, _ => exact sentinel_lit30 (A 29) w (h.cell 29 30 rfl)
  | 30, _ => exact sentinel_lit31 (A 30) w (h.cell 30 31 rfl)
  | 31, _ => exact sentinel_lit32 (A 31) w (h.cell 31 32 rfl)
  | 32, _ => exact sentinel_lit33 (A 32) w (h.cell 32 33 rfl)
  | 33, _ => exact sentinel_lit34 (A 33) w (h.cell 33 2 rfl)
  | 34, _ => exact sentinel_lit35 (A 34) w (h.cell 34 34 rfl)
  | 35, _ => exact sentinel_lit36 (A 35) w (h.cell 35 35 rfl)
  | 36, _ => exact sentinel_lit37 (A 36) w (h.cell 36 36 rfl)
  | 37, _ => exact sentinel_lit38 (A 37) w (h.cell 37 37 rfl)
  | 38, _ => exact sentinel_lit39 (A 38) w (h.cell 38 38 rfl)
  | 39, _ => exact sentinel_lit40 (A 39) w (h.cell 39 39 rfl)
  | 40, _ => exact sentinel_lit41 (A 40) w (h.cell 40 40 rfl)
  | 41, _ => exact sentinel_lit42 (A 41) w (h.cell 41 41 rfl)
  | n + 42, h2 => omega
end Go.Proofs.YtnocalkloinbbaaDoor
