/-
  culvertlaw01.awake: what it leans on of num.Add.
-/
import Derived.Test.YtakjofpidlijnaaDoorNumBytes
import Derived.Deep.QuietTactic
import Derived.BigQuiet
import Derived.WalkSmall
namespace Go.Proofs.YtakjofpidlijnaaDoor
open Go.RowKit

theorem add_over {A : Nat → Addr} (a b : Int) (w : World) (hs : Sents 59 codeVars A w) (ha : 0 ≤ a) (ha1 : a ≤ 4294967295) (h : ¬ a + b ≤ 4294967295) :
    Calls Tryd.prog 10 #[.int .u32 a, .int .u32 b] w fun e w' => e = .returned (.tuple #[.int .u32 0, .iface 59 (.pointer (some (A 3)))]) ∧ Below w.heap.size w w' := by
  have h' : 4294967295 - a < b := by omega
  have hc := hs.cell 3 1 rfl
  clear hs h
  go_enter Tryd.func10, Tryd.ntmps10
  go_wp2
  go_quiet (fail)
  go_wp2
  go_ret2
  exact ⟨rfl, below_drewN (Below.refl _ _) _⟩
theorem awake_true {A : Nat → Addr} (w : World) (hs : Sents 59 codeVars A w) :
    Calls Tryd.prog 4 #[] w fun e w' => e = .returned (.bool true) ∧ Below w.heap.size w w' := by
  have hb : Below w.heap.size w ((w.alloc (.cells #[.int .u8 (258 / 256), .int .u8 (258 % 256)] 41)).alloc (.cells #[.int .u8 (258 / 256), .int .u8 (258 % 256)] 5)) := ((Below.refl _ _).alloc (Nat.le_refl _) _).alloc (by simp) _
  have hs1 := hs.later hb
  have HS : Hid (Sents 59 codeVars A ((w.alloc (.cells #[.int .u8 (258 / 256), .int .u8 (258 % 256)] 41)).alloc (.cells #[.int .u8 (258 / 256), .int .u8 (258 % 256)] 5))) := hs1
  clear hs1 hs
  go_enter Tryd.func4, Tryd.ntmps4
  go_wp2_with (go_at_call 6; refine (bytes16_any 258 _ (by decide) (by decide)).mono ?_; rintro e w' ⟨rfl, rfl⟩)
  refine (add_over 4294967295 1 _ HS.out (by decide) (by decide) (by decide)).mono ?_
  rintro e w2 ⟨rfl, hb2⟩
  have c0 : w2.cell? ⟨w.heap.size + 1, 0, none⟩ = some (.int .u8 1) := by
    rw [hb2.cell (p := ⟨w.heap.size + 1, 0, none⟩) (by simp)]; simp
  have c1 : w2.cell? ⟨w.heap.size + 1, 1, none⟩ = some (.int .u8 2) := by
    rw [hb2.cell (p := ⟨w.heap.size + 1, 1, none⟩) (by simp)]; simp
  have HC : Hid (Calls Tryd.prog 11 #[.iface 59 (.pointer (some (A 3)))] w2 fun e w' => e = .returned (.int .i64 4) ∧ w' = w2) := code_sent (HS.out.later hb2) 3 (by decide) (by decide)
  go_wp2_with (go_at_call 11; refine HC.out.mono ?_; rintro e w' ⟨rfl, rfl⟩)
  go_ret
  exact ⟨rfl, hb.trans (hb2.mono (by simp; omega))⟩
end Go.Proofs.YtakjofpidlijnaaDoor
