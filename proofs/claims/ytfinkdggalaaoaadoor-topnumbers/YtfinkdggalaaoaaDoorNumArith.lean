/-
  package num's sums, the document's, and 'awake'.
-/
import Derived.Test.YtfinkdggalaaoaaDoorNumBytes
import Derived.Deep.QuietTactic
import Derived.BigQuiet
import Derived.WalkSmall
namespace Go.Proofs.YtfinkdggalaaoaaDoor
open Go.RowKit

theorem add_ok (a b : Int) (w : World) (ha : 0 ≤ a) (hb : 0 ≤ b) (h : a + b ≤ 4294967295) :
    Calls Tryd.prog 17 #[.int .u32 a, .int .u32 b] w fun e w' => e = .returned (.tuple #[.int .u32 (a + b), .nilIface]) ∧ w' = w := by
  have h' : ¬ 4294967295 - a < b := by omega
  go_enter Tryd.func17, Tryd.ntmps17
  go_wp2
  go_ret2
  exact ⟨rfl, rfl⟩
theorem add_over {A : Nat → Addr} (a b : Int) (w : World) (hs : Sents 74 codeVars A w) (ha : 0 ≤ a) (ha1 : a ≤ 4294967295) (h : ¬ a + b ≤ 4294967295) :
    Calls Tryd.prog 17 #[.int .u32 a, .int .u32 b] w fun e w' => e = .returned (.tuple #[.int .u32 0, .iface 74 (.pointer (some (A 3)))]) ∧ Below w.heap.size w w' := by
  have h' : 4294967295 - a < b := by omega
  have hc := hs.cell 3 1 rfl
  clear hs h
  go_enter Tryd.func17, Tryd.ntmps17
  go_wp2
  go_quiet (fail)
  go_wp2
  go_ret2
  exact ⟨rfl, below_drewN (Below.refl _ _) _⟩
theorem sub_ok (a b : Int) (w : World) (ha : a ≤ 4294967295) (hb : 0 ≤ b) (h : b ≤ a) :
    Calls Tryd.prog 19 #[.int .u32 a, .int .u32 b] w fun e w' => e = .returned (.tuple #[.int .u32 (a - b), .nilIface]) ∧ w' = w := by
  have h' : ¬ a < b := by omega
  go_enter Tryd.func19, Tryd.ntmps19
  go_wp2
  go_ret2
  exact ⟨rfl, rfl⟩
theorem sub_under {A : Nat → Addr} (a b : Int) (w : World) (hs : Sents 74 codeVars A w) (h : ¬ b ≤ a) :
    Calls Tryd.prog 19 #[.int .u32 a, .int .u32 b] w fun e w' => e = .returned (.tuple #[.int .u32 0, .iface 74 (.pointer (some (A 4)))]) ∧ Below w.heap.size w w' := by
  have h' : a < b := by omega
  have hc := hs.cell 4 2 rfl
  clear hs h
  go_enter Tryd.func19, Tryd.ntmps19
  go_wp2
  go_quiet (fail)
  go_wp2
  go_ret2
  exact ⟨rfl, below_drewN (Below.refl _ _) _⟩
theorem narrow_ok (n : Int) (w : World) (h0 : 0 ≤ n) (h1 : n ≤ 4294967295) :
    Calls Tryd.prog 21 #[.int .i64 n] w fun e w' => e = .returned (.tuple #[.int .u32 n, .nilIface]) ∧ w' = w := by
  have h0' : ¬ n < 0 := by omega
  have h1' : ¬ 4294967295 < n := by omega
  go_enter Tryd.func21, Tryd.ntmps21
  go_wp2
  go_ret2
  exact ⟨rfl, rfl⟩
theorem narrow_no {A : Nat → Addr} (n : Int) (w : World) (hs : Sents 74 codeVars A w) (h : n < 0 ∨ 4294967295 < n) :
    Calls Tryd.prog 21 #[.int .i64 n] w fun e w' => e = .returned (.tuple #[.int .u32 0, .iface 74 (.pointer (some (A 1)))]) ∧ Below w.heap.size w w' := by
  have hc := hs.cell 1 3 rfl
  clear hs
  rcases h with h | h
  · go_enter Tryd.func21, Tryd.ntmps21
    go_wp2
    go_quiet (fail)
    go_wp2
    go_ret2
    exact ⟨rfl, below_drewN (Below.refl _ _) _⟩
  · have h0' : ¬ n < 0 := by omega
    go_enter Tryd.func21, Tryd.ntmps21
    go_wp2
    go_quiet (fail)
    go_wp2
    go_ret2
    exact ⟨rfl, below_drewN (Below.refl _ _) _⟩

theorem refAdd_ok (a b : Int) (w : World) (ha : 0 ≤ a) (hb : 0 ≤ b) (h : a + b ≤ 4294967295) :
    Calls Tryd.prog 18 #[.int .u32 a, .int .u32 b] w fun e w' => e = .returned (.tuple #[.int .u32 (a + b), .int .i64 0]) ∧ w' = w := by
  have h' : ¬ 4294967295 < a + b := by omega
  go_enter Tryd.func18, Tryd.ntmps18
  go_wp2
  go_ret2
  exact ⟨rfl, rfl⟩
theorem refAdd_over (a b : Int) (w : World) (ha : 0 ≤ a) (ha1 : a ≤ 4294967295) (hb : 0 ≤ b) (hb1 : b ≤ 4294967295) (h : ¬ a + b ≤ 4294967295) :
    Calls Tryd.prog 18 #[.int .u32 a, .int .u32 b] w fun e w' => e = .returned (.tuple #[.int .u32 0, .int .i64 4]) ∧ w' = w := by
  have h' : 4294967295 < a + b := by omega
  go_enter Tryd.func18, Tryd.ntmps18
  go_wp2
  go_ret2
  exact ⟨rfl, rfl⟩
theorem refSub_ok (a b : Int) (w : World) (ha : a ≤ 4294967295) (hb : 0 ≤ b) (h : b ≤ a) :
    Calls Tryd.prog 20 #[.int .u32 a, .int .u32 b] w fun e w' => e = .returned (.tuple #[.int .u32 (a - b), .int .i64 0]) ∧ w' = w := by
  have h' : ¬ a < b := by omega
  go_enter Tryd.func20, Tryd.ntmps20
  go_wp2
  go_ret2
  exact ⟨rfl, rfl⟩
theorem refSub_under (a b : Int) (w : World) (h : ¬ b ≤ a) :
    Calls Tryd.prog 20 #[.int .u32 a, .int .u32 b] w fun e w' => e = .returned (.tuple #[.int .u32 0, .int .i64 5]) ∧ w' = w := by
  have h' : a < b := by omega
  go_enter Tryd.func20, Tryd.ntmps20
  go_wp2
  go_ret2
  exact ⟨rfl, rfl⟩
theorem refNarrow_ok (n : Int) (w : World) (h0 : 0 ≤ n) (h1 : n ≤ 4294967295) :
    Calls Tryd.prog 22 #[.int .i64 n] w fun e w' => e = .returned (.tuple #[.int .u32 n, .int .i64 0]) ∧ w' = w := by
  have h0' : ¬ n < 0 := by omega
  have h1' : ¬ 4294967295 < n := by omega
  go_enter Tryd.func22, Tryd.ntmps22
  go_wp2
  go_ret2
  exact ⟨rfl, rfl⟩
theorem refNarrow_no (n : Int) (w : World) (h : n < 0 ∨ 4294967295 < n) :
    Calls Tryd.prog 22 #[.int .i64 n] w fun e w' => e = .returned (.tuple #[.int .u32 0, .int .i64 2]) ∧ w' = w := by
  rcases h with h | h
  · go_enter Tryd.func22, Tryd.ntmps22
    go_wp2
    go_ret2
    exact ⟨rfl, rfl⟩
  · have h0' : ¬ n < 0 := by omega
    go_enter Tryd.func22, Tryd.ntmps22
    go_wp2
    go_ret2
    exact ⟨rfl, rfl⟩

set_option maxHeartbeats 1000000 in
/-- awake: true; two new blocks -/
theorem awake_true {A : Nat → Addr} (w : World) (hs : Sents 74 codeVars A w) :
    Calls Tryd.prog 8 #[] w fun e w' => e = .returned (.bool true) ∧ Below w.heap.size w w' := by
  have hb : Below w.heap.size w ((w.alloc (.cells #[.int .u8 (258 / 256), .int .u8 (258 % 256)] 51)).alloc (.cells #[.int .u8 (258 / 256), .int .u8 (258 % 256)] 5)) := ((Below.refl _ _).alloc (Nat.le_refl _) _).alloc (by simp) _
  have hs1 := hs.later hb
  have HS : Hid (Sents 74 codeVars A ((w.alloc (.cells #[.int .u8 (258 / 256), .int .u8 (258 % 256)] 51)).alloc (.cells #[.int .u8 (258 / 256), .int .u8 (258 % 256)] 5))) := hs1
  clear hs1 hs
  go_enter Tryd.func8, Tryd.ntmps8
  go_wp2_with (go_at_call 12; refine (bytes16_any 258 _ (by decide) (by decide)).mono ?_; rintro e w' ⟨rfl, rfl⟩)
  refine (add_over 4294967295 1 _ HS.out (by decide) (by decide) (by decide)).mono ?_
  rintro e w2 ⟨rfl, hb2⟩
  have c0 : w2.cell? ⟨w.heap.size + 1, 0, none⟩ = some (.int .u8 1) := by
    rw [hb2.cell (p := ⟨w.heap.size + 1, 0, none⟩) (by simp)]; simp
  have c1 : w2.cell? ⟨w.heap.size + 1, 1, none⟩ = some (.int .u8 2) := by
    rw [hb2.cell (p := ⟨w.heap.size + 1, 1, none⟩) (by simp)]; simp
  have HC : Hid (Calls Tryd.prog 15 #[.iface 74 (.pointer (some (A 3)))] w2 fun e w' => e = .returned (.int .i64 4) ∧ w' = w2) := code_sent (HS.out.later hb2) 3 (by decide) (by decide)
  go_wp2_with (go_at_call 15; refine HC.out.mono ?_; rintro e w' ⟨rfl, rfl⟩)
  go_ret
  exact ⟨rfl, hb.trans (hb2.mono (by simp; omega))⟩
end Go.Proofs.YtfinkdggalaaoaaDoor
