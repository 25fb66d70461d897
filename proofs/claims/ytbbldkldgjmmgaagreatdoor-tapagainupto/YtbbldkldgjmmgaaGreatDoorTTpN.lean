/-
  package tap: number, typeOf, flagOf
-/
import Derived.Test.YtbbldkldgjmmgaaGreatDoorTTpU
namespace Go.Proofs.YtbbldkldgjmmgaaGreatDoor
open Go.RowKit Go.Maps
attribute [-go_sem] run_index_string

theorem bw_below (w : World) (s : ByteArray) : Below w.heap.size w (Lib.bytesWorld w 5 s) :=
  ⟨by simp [Lib.bytesWorld, World.freeze, World.alloc, World.drew, -World.alloc_eq, -World.drew_eq], by simp [Lib.bytesWorld, World.freeze, World.alloc, World.drew, -World.alloc_eq, -World.drew_eq], by simp [Lib.bytesWorld, World.freeze, World.alloc, World.drew, -World.alloc_eq, -World.drew_eq], by rw [Lib.bytesWorld_size]; omega, fun b hb => Lib.bytesWorld_at_old w 5 s b hb⟩
theorem number_of (w : World) {S : ByteArray} {B : Int} {u : Nat} (hu : u ≤ 4294967295) (P : Calls Tryz.prog 73 #[.string S, .int .i64 10, .int .i64 B] w fun e w' => e = .returned (.tuple #[.int .u64 u, .nilIface]) ∧ (w' = w ∨ w' = Lib.bytesWorld w 5 S)) :
    Calls Tryz.prog 51 #[.string S, .int .i64 B] w fun e w' => e = .returned (.int .u32 u) ∧ Aside (Below w.heap.size w w') := by
  have P := Aside.mk P
  have hu2 : (u : Int) ≤ 4294967295 := by omega
  go_enter Tryz.func51, Tryz.ntmps51
  go_wp2_with (first | (go_at_call 73; refine P.it.mono ?_; rintro e w2 ⟨rfl, h2⟩; have B2 : Aside (Below w.heap.size w w2) := ⟨(by rcases h2 with rfl | rfl; exact Below.refl _ _; exact bw_below _ _)⟩; clear h2) | fail)
  go_ret
  exact ⟨rfl, B2⟩
theorem parseM_le {M : Nat} : ∀ {l : List UInt8} {acc u : Nat}, acc ≤ M → Lib.parseUintM M acc l = .ok u → u ≤ M
  | [], acc, u, h, e => by rw [Lib.parseUintM] at e; injection e with e; omega
  | c :: r, acc, u, h, e => by
    rw [Lib.parseUintM] at e
    split at e
    · split at e
      · cases e
      · split at e
        · cases e
        · exact parseM_le (by omega) e
    · cases e
theorem numU_le {B u : Nat} {W : List UInt8} (h : Tp.numU B W = some u) : u ≤ 2 ^ B - 1 := by
  have := Tp.numU_ok h
  unfold Lib.parseUintB at this
  split at this
  · cases this
  · exact parseM_le (Nat.zero_le _) this
theorem number8 (w : World) {W : List UInt8} {u : Nat} (h : Tp.numU 8 W = some u) (hl : W.length ≤ 9223372036854775806) : Calls Tryz.prog 51 #[.string (str W), .int .i64 8] w fun e w' => e = .returned (.int .u32 u) ∧ Aside (Below w.heap.size w w') :=
  number_of w (by have := numU_le h; omega) (Tryz.strconv_ParseUint_10_at8_ok (str W) (by rw [str_size]; exact hl) u (by simpa using Tp.numU_ok h) w)
theorem number16 (w : World) {W : List UInt8} {u : Nat} (h : Tp.numU 16 W = some u) (hl : W.length ≤ 9223372036854775806) : Calls Tryz.prog 51 #[.string (str W), .int .i64 16] w fun e w' => e = .returned (.int .u32 u) ∧ Aside (Below w.heap.size w w') :=
  number_of w (by have := numU_le h; omega) (Tryz.strconv_ParseUint_10_at16_ok (str W) (by rw [str_size]; exact hl) u (by simpa using Tp.numU_ok h) w)
theorem number32 (w : World) {W : List UInt8} {u : Nat} (h : Tp.numU 32 W = some u) (hl : W.length ≤ 9223372036854775806) : Calls Tryz.prog 51 #[.string (str W), .int .i64 32] w fun e w' => e = .returned (.int .u32 u) ∧ Aside (Below w.heap.size w w') :=
  number_of w (by have := numU_le h; omega) (Tryz.strconv_ParseUint_10_at32_ok (str W) (by rw [str_size]; exact hl) u (by simpa using Tp.numU_ok h) w)
theorem str_beq (a b : List UInt8) : ((str a).toList == b) = decide (a = b) := by
  rw [ByteArray.toList_eq]
  by_cases h : a = b
  · simp [h]
  · simp [h]
theorem typeOf_at (w : World) (W : List UInt8) : Calls Tryz.prog 52 #[.string (str W)] w fun e w' => e = .returned (.int .u8 (Tp.tyU W : Nat)) ∧ w' = w := by
  have e1 := str_beq W [119, 105, 110, 100, 111, 119]
  have e2 := str_beq W [112, 105, 110, 103]
  have e3 := str_beq W [97, 119, 97, 121]
  unfold Tp.tyU
  generalize str W = S at e1 e2 e3 ⊢
  by_cases h1 : W = [119, 105, 110, 100, 111, 119]
  · rw [if_pos h1]
    rw [decide_eq_true h1] at e1
    go_enter Tryz.func52, Tryz.ntmps52
    go_wp2
    go_ret
    exact ⟨rfl, rfl⟩
  rw [if_neg h1]
  rw [decide_eq_false h1] at e1
  by_cases h2 : W = [112, 105, 110, 103]
  · rw [if_pos h2]
    rw [decide_eq_true h2] at e2
    go_enter Tryz.func52, Tryz.ntmps52
    go_wp2
    go_ret
    exact ⟨rfl, rfl⟩
  rw [if_neg h2]
  rw [decide_eq_false h2] at e2
  by_cases h3 : W = [97, 119, 97, 121]
  · rw [if_pos h3]
    rw [decide_eq_true h3] at e3
    go_enter Tryz.func52, Tryz.ntmps52
    go_wp2
    go_ret
    exact ⟨rfl, rfl⟩
  rw [if_neg h3]
  rw [decide_eq_false h3] at e3
  go_enter Tryz.func52, Tryz.ntmps52
  go_wp2
  go_ret
  exact ⟨rfl, rfl⟩
theorem flagOf_at (w : World) (W : List UInt8) : Calls Tryz.prog 53 #[.string (str W)] w fun e w' => e = .returned (.int .u16 (Tp.flU W : Nat)) ∧ w' = w := by
  have e1 := str_beq W [115, 121, 110]
  have e2 := str_beq W [97, 99, 107]
  have e3 := str_beq W [102, 105, 110]
  have e4 := str_beq W [114, 115, 116]
  unfold Tp.flU
  generalize str W = S at e1 e2 e3 e4 ⊢
  by_cases h1 : W = [115, 121, 110]
  · rw [if_pos h1]
    rw [decide_eq_true h1] at e1
    go_enter Tryz.func53, Tryz.ntmps53
    go_wp2
    go_ret
    exact ⟨rfl, rfl⟩
  rw [if_neg h1]
  rw [decide_eq_false h1] at e1
  by_cases h2 : W = [97, 99, 107]
  · rw [if_pos h2]
    rw [decide_eq_true h2] at e2
    go_enter Tryz.func53, Tryz.ntmps53
    go_wp2
    go_ret
    exact ⟨rfl, rfl⟩
  rw [if_neg h2]
  rw [decide_eq_false h2] at e2
  by_cases h3 : W = [102, 105, 110]
  · rw [if_pos h3]
    rw [decide_eq_true h3] at e3
    go_enter Tryz.func53, Tryz.ntmps53
    go_wp2
    go_ret
    exact ⟨rfl, rfl⟩
  rw [if_neg h3]
  rw [decide_eq_false h3] at e3
  by_cases h4 : W = [114, 115, 116]
  · rw [if_pos h4]
    rw [decide_eq_true h4] at e4
    go_enter Tryz.func53, Tryz.ntmps53
    go_wp2
    go_ret
    exact ⟨rfl, rfl⟩
  rw [if_neg h4]
  rw [decide_eq_false h4] at e4
  go_enter Tryz.func53, Tryz.ntmps53
  go_wp2
  go_ret
  exact ⟨rfl, rfl⟩
end Go.Proofs.YtbbldkldgjmmgaaGreatDoor
