/-
  package msg: what a reader is in memory; New, Held, Done, isWhole
-/
import Derived.Test.YtnocalkloinbbaaDoorMgP
import Derived.Test.YtnocalkloinbbaaDoorMgX
import Derived.Test.YtnocalkloinbbaaDoorAnyT
import Derived.Test.YtnocalkloinbbaaDoorSn
import Derived.Test.YtnocalkloinbbaaDoorCodedZ
import Derived.Deep.QuietTactic
import Derived.Deep.MidRow
import Derived.Handy
namespace Go.Proofs.YtnocalkloinbbaaDoor
open Go.RowKit

section
variable {A : Nat → Addr} {w w' W w0 : World} {own own' : Nat → Nat} {i p most : Nat} {h B : List Int} {z : Bool} {v : Value} {I : Nat → Prop}
/-- a reader that lives: h of the length has come (z: all of it), B of the message; the box is i's, the row of the message's bytes (i + 1)'s -/
structure RdrI (own : Nat → Nat) (i : Nat) (w : World) (p most : Nat) (h : List Int) (z : Bool) (B : List Int) (v : Value) : Prop where
  box : CellsO own i w p 48 [.int .i64 most, .int .i64 h.length, .int .i64 (lenOf h), .bool z, v, .bool false]
  row : RowB own (i + 1) w v B
  part : Part most h z B
  most : most ≤ 1048576
/-- a dead one -/
def DeadI (own : Nat → Nat) (i : Nat) (w : World) (p : Nat) : Prop := CellsO own i w p 48 [.int .i64 0, .int .i64 0, .int .i64 0, .bool false, .slice none 0 0, .bool true]
theorem RdrI.sx (r : RdrI own i w p most h z B v) (s : Sx I own w own' w') (h1 : ¬ I i) (h2 : ¬ I (i + 1)) : RdrI own' i w' p most h z B v := ⟨r.box.sx s h1, r.row.sx s h2, r.part, r.most⟩
theorem RdrI.quiet (r : RdrI own i w p most h z B v) (k : Keeps Nowhere w w') : RdrI own i w' p most h z B v := r.sx (I := fun _ => False) (Sn.same k).sx (fun x => x) (fun x => x)
theorem RdrI.cells (r : RdrI own i w p most h z B v) : w.cell? ⟨p, 0, none⟩ = some (.int .i64 most) ∧ w.cell? ⟨p, 1, none⟩ = some (.int .i64 h.length) ∧ w.cell? ⟨p, 2, none⟩ = some (.int .i64 (lenOf h)) ∧ w.cell? ⟨p, 3, none⟩ = some (.bool z) ∧ w.cell? ⟨p, 4, none⟩ = some v ∧ w.cell? ⟨p, 5, none⟩ = some (.bool false) := by
  refine ⟨?_, ?_, ?_, ?_, ?_, ?_⟩ <;> (rw [r.box.1.cell]; rfl)
theorem DeadI.sx (r : DeadI own i w p) (s : Sx I own w own' w') (h1 : ¬ I i) : DeadI own' i w' p := CellsO.sx r s h1
theorem DeadI.cells (r : DeadI own i w p) : w.cell? ⟨p, 1, none⟩ = some (.int .i64 0) ∧ w.cell? ⟨p, 4, none⟩ = some (.slice none 0 0) ∧ w.cell? ⟨p, 5, none⟩ = some (.bool true) := by
  refine ⟨?_, ?_, ?_⟩ <;> (rw [r.1.cell]; rfl)
/-- a reader that holds l, or a dead one -/
def RdrO (own : Nat → Nat) (i : Nat) (w : World) (p most : Nat) (l : List Int) (dead : Bool) : Prop := if dead then DeadI own i w p ∧ l = [] else ∃ h z B v, l = h ++ B ∧ ¬ (z = true ∧ B.length = lenOf h) ∧ RdrI own i w p most h z B v
theorem RdrO.sx {l : List Int} {dead : Bool} (r : RdrO own i w p most l dead) (s : Sx I own w own' w') (h1 : ¬ I i) (h2 : ¬ I (i + 1)) : RdrO own' i w' p most l dead := by
  unfold RdrO at r ⊢
  split at r
  · rename_i hd; rw [if_pos hd]; exact ⟨r.1.sx s h1, r.2⟩
  · rename_i hd; rw [if_neg hd]
    obtain ⟨h, z, B, v, e, hw, x⟩ := r
    exact ⟨h, z, B, v, e, hw, x.sx s h1 h2⟩
theorem RdrO.quiet {l : List Int} {dead : Bool} (r : RdrO own i w p most l dead) (k : Keeps Nowhere w w') : RdrO own i w' p most l dead := r.sx (I := fun _ => False) (Sn.same k).sx (fun x => x) (fun x => x)
theorem mayMost (w : World) (most : Int) : Calls Tryd.prog 16 #[.int .i64 most] w fun e w' => e = .returned (.bool (decide (0 ≤ most ∧ most ≤ 1048576))) ∧ w' = w := by
  by_cases h1 : 0 ≤ most
  · by_cases h2 : most ≤ 1048576
    · have g : decide (0 ≤ most ∧ most ≤ 1048576) = true := by simp [h1, h2]
      rw [g]
      clear g
      go_enter Tryd.func16, Tryd.ntmps16
      go_wp2
      go_ret
      exact ⟨by simp, by trivial⟩
    · have g : decide (0 ≤ most ∧ most ≤ 1048576) = false := by simp [h2]
      rw [g]
      clear g
      go_enter Tryd.func16, Tryd.ntmps16
      go_wp2
      go_ret
      exact ⟨by simp, by trivial⟩
  · have g : decide (0 ≤ most ∧ most ≤ 1048576) = false := by simp [h1]
    rw [g]
    clear g
    go_enter Tryd.func16, Tryd.ntmps16
    go_wp2
    go_ret
    exact ⟨by simp, by trivial⟩
theorem newM_ok (hm : most ≤ 1048576) (own : Nat → Nat) (i : Nat) : Calls Tryd.prog 5 #[.int .i64 most] w fun e w' => ∃ p, e = .returned (.tuple #[ptr p, .nilIface]) ∧ Aside (RdrO (give own w.heap.size i) i w' p most [] false) ∧ Aside (Keeps Nowhere w w') := by
  have MM := Aside.mk (mayMost w most)
  have hg : decide ((0 : Int) ≤ (most : Int) ∧ (most : Int) ≤ 1048576) = true := by simp; omega
  rw [hg] at MM
  have HMo := Aside.mk hm
  clear hg hm
  go_enter Tryd.func5, Tryd.ntmps5
  go_wp2_with (first | (go_at_call 16; refine MM.it.mono ?_; clear MM; rintro e w1 ⟨rfl, hw⟩; subst hw) | fail)
  go_ret2
  refine ⟨_, rfl, ⟨?_⟩, ⟨(Keeps.refl _ _).alloc _⟩⟩
  exact ⟨[], false, [], .slice none 0 0, rfl, by simp, ⟨Cells.new _ _ _, give_new (Nat.le_refl _)⟩, RowB.nil _ _ _, part_new, HMo.it⟩
theorem newM_no {most : Int} (h : most < 0 ∨ 1048576 < most) (hs : Sents 74 codeVars A w) : Calls Tryd.prog 5 #[.int .i64 most] w fun e w' => e = .returned (.tuple #[.pointer none, .iface 74 (.pointer (some (A 1)))]) ∧ Aside (Keeps Nowhere w w') := by
  have MM := Aside.mk (mayMost w most)
  have hg : decide ((0 : Int) ≤ most ∧ most ≤ 1048576) = false := by simp; omega
  rw [hg] at MM
  have hc := hs.cell 1 0 rfl
  clear hs hg h
  go_enter Tryd.func5, Tryd.ntmps5
  go_wp2_with (first | (go_at_call 16; refine MM.it.mono ?_; clear MM; rintro e w1 ⟨rfl, hw⟩; subst hw) | fail)
  go_quiet (fail)
  go_wp2
  go_ret2
  exact ⟨rfl, ⟨(Keeps.refl _ _).drewN _⟩⟩
theorem heldM_nil : Calls Tryd.prog 10 #[.pointer none] w fun e w' => e = .returned (.int .i64 0) ∧ w' = w := by
  go_enter Tryd.func10, Tryd.ntmps10
  go_wp2
  go_ret
  exact ⟨rfl, rfl⟩
theorem heldM {l : List Int} {dead : Bool} (r : RdrO own i w p most l dead) : Calls Tryd.prog 10 #[ptr p] w fun e w' => e = .returned (.int .i64 l.length) ∧ ∃ m, w' = w.drewN m := by
  unfold RdrO at r
  cases dead with
  | true =>
    obtain ⟨r, rfl⟩ := r
    obtain ⟨c1, c4, _⟩ := r.cells
    clear r
    go_enter Tryd.func10, Tryd.ntmps10
    go_wp2
    go_quiet (fail)
    go_wp2
    go_ret
    exact ⟨rfl, _, rfl⟩
  | false =>
    simp only [Bool.false_eq_true, if_false] at r
    obtain ⟨h, z, B, v, rfl, _, r⟩ := r
    obtain ⟨q, c, rfl⟩ := r.row.shape
    obtain ⟨_, c1, _, _, c4, _⟩ := r.cells
    have hl := part_len r.part
    have hm := r.most
    obtain ⟨a, ha⟩ : ∃ a, h.length = a := ⟨_, rfl⟩
    obtain ⟨b, hb⟩ : ∃ b, B.length = b := ⟨_, rfl⟩
    rw [List.length_append, ha, hb]
    rw [ha] at c1 hl
    rw [hb] at c4 hl
    have hw1 : IntKind.i64.wrap ((a : Int) + b) = ((a + b : Nat) : Int) := by rw [IntKind.wrap_i64]; omega
    clear r ha hb
    go_enter Tryd.func10, Tryd.ntmps10
    go_wp2
    go_quiet (fail)
    go_wp2
    go_ret
    exact ⟨by go_num, _, rfl⟩
theorem doneR_nil (hs : Sents 74 codeVars A w) : Calls Tryd.prog 13 #[.pointer none] w fun e w' => e = .returned (.iface 74 (.pointer (some (A 0)))) ∧ w' = w := by
  have hc := hs.cell 0 1 rfl
  clear hs
  go_enter Tryd.func13, Tryd.ntmps13
  go_wp2
  go_ret
  exact ⟨rfl, rfl⟩
/-- the error's number of Done -/
def doneC (l : List Int) (dead : Bool) : Int := if dead then 34 else if 0 < l.length then 3 else 0
theorem doneR {l : List Int} {dead : Bool} (r : RdrO own i w p most l dead) (hs : Sents 74 codeVars A w) : Calls Tryd.prog 13 #[ptr p] w fun e w' => ∃ ev, e = .returned ev ∧ Hid (Coded A ev (doneC l dead)) ∧ ∃ m, w' = w.drewN m := by
  have HD := Aside.mk (heldM r)
  have h33 := hs.cell 33 2 rfl
  have h2 := hs.cell 2 4 rfl
  have h2' : ∀ m, (w.drewN m).cell? ⟨4, 0, none⟩ = some (.iface 74 (.pointer (some (A 2)))) := fun m => h2
  clear hs
  unfold doneC
  cases dead with
  | true =>
    unfold RdrO at r
    obtain ⟨_, _, c5⟩ := r.1.cells
    clear r
    go_enter Tryd.func13, Tryd.ntmps13
    go_wp2
    go_ret
    exact ⟨_, rfl, Coded.mk 33 34 (by decide) (by decide) rfl, 0, rfl⟩
  | false =>
    unfold RdrO at r
    simp only [Bool.false_eq_true, if_false] at r
    obtain ⟨h, z, B, v, rfl, _, r⟩ := r
    obtain ⟨_, _, _, _, _, c5⟩ := r.cells
    clear r
    obtain ⟨n, hn⟩ : ∃ n, (h ++ B).length = n := ⟨_, rfl⟩
    rw [hn] at HD ⊢
    clear hn
    by_cases h0 : 0 < n
    · have g1 : (0 : Int) < (n : Int) := by omega
      rw [if_neg (by decide), if_pos h0]
      go_enter Tryd.func13, Tryd.ntmps13
      go_wp2_with (first | (go_at_call 10; refine HD.it.mono ?_; clear HD; rintro e w1 ⟨rfl, m, rfl⟩) | fail)
      go_ret
      exact ⟨_, rfl, Coded.mk 2 3 (by decide) (by decide) rfl, m, rfl⟩
    · have g1 : ¬ (0 : Int) < (n : Int) := by omega
      rw [if_neg (by decide), if_neg h0]
      go_enter Tryd.func13, Tryd.ntmps13
      go_wp2_with (first | (go_at_call 10; refine HD.it.mono ?_; clear HD; rintro e w1 ⟨rfl, m, rfl⟩) | fail)
      go_ret
      exact ⟨_, rfl, Coded.none, m, rfl⟩
set_option maxHeartbeats 2000000 in
theorem wholeM (r : RdrI own i w p most h z B v) : Calls Tryd.prog 18 #[ptr p] w fun e w' => e = .returned (.bool (z && decide (B.length = lenOf h))) ∧ ∃ m, w' = w.drewN m := by
  obtain ⟨q, c, rfl⟩ := r.row.shape
  obtain ⟨_, _, c2, c3, c4, _⟩ := r.cells
  have hl := part_len r.part
  obtain ⟨a, ha⟩ : ∃ a, lenOf h = a := ⟨_, rfl⟩
  obtain ⟨b, hb⟩ : ∃ b, B.length = b := ⟨_, rfl⟩
  rw [ha] at c2 ⊢
  rw [hb] at c4 ⊢
  clear r ha hb hl
  cases z with
  | true =>
    by_cases e : b = a
    · subst e
      have g0 : ((b : Int) == b) = true := by simp
      go_enter Tryd.func18, Tryd.ntmps18
      go_wp2
      go_quiet (fail)
      go_wp2
      go_ret
      exact ⟨by simp, _, rfl⟩
    · have g0 : ((b : Int) == a) = false := by simp; omega
      have g1 : (b == a) = false := by simp; omega
      go_enter Tryd.func18, Tryd.ntmps18
      go_wp2
      go_quiet (fail)
      go_wp2
      go_ret
      exact ⟨by simp [e], _, rfl⟩
  | false =>
    go_enter Tryd.func18, Tryd.ntmps18
    go_wp2
    refine wp_region_noPanic ?_
    refine wp_region_held_drew (S := fun W => W.cell? ⟨p, 3, none⟩ = some (.bool false)) (by kernel_rfl) (c3) (fun hHeld => ?_)
    refine any_take 0 3 (ptr p) rfl rfl (by kernel_rfl) (by kernel_rfl) (by kernel_rfl) (fun _ _ _ h => h) (Or.inl ⟨by rfl, by intro w hSw; go_simp⟩) hHeld ?_
    simp only [Act.put, List.setIfInBounds_toArray, List.set_cons_zero, List.set_cons_succ]
    refine any_take 1 4 (ptr p) rfl rfl (by kernel_rfl) (by kernel_rfl) (by kernel_rfl) (fun _ _ _ h => h) (Or.inl ⟨by rfl, by intro w hSw; go_simp⟩) hHeld ?_
    simp only [Act.put, List.setIfInBounds_toArray, List.set_cons_zero, List.set_cons_succ]
    refine any_take 2 5 (.pointer (some ⟨p, 3, none⟩)) rfl rfl (by kernel_rfl) (by kernel_rfl) (by kernel_rfl) (fun _ _ _ h => h) (Or.inl ⟨by rfl, by intro w hSw; go_simp⟩) hHeld ?_
    simp only [Act.put, List.setIfInBounds_toArray, List.set_cons_zero, List.set_cons_succ]
    refine any_take 3 6 (.bool false) rfl rfl (by kernel_rfl) (by kernel_rfl) (by kernel_rfl) (fun _ _ _ h => h) (Or.inl ⟨by rfl, by intro w hSw; go_simp⟩) hHeld ?_
    simp only [Act.put, List.setIfInBounds_toArray, List.set_cons_zero, List.set_cons_succ]
    refine any_take 4 7 (.bool false) rfl rfl (by kernel_rfl) (by kernel_rfl) (by kernel_rfl) (fun _ _ _ h => h) (Or.inl ⟨by rfl, by intro w hSw; go_simp⟩) hHeld ?_
    simp only [Act.put, List.setIfInBounds_toArray, List.set_cons_zero, List.set_cons_succ]
    refine any_take 5 8 (undef) rfl rfl (by kernel_rfl) (by kernel_rfl) (by kernel_rfl) (fun _ _ _ h => h) (Or.inr ⟨by kernel_rfl, rfl⟩) hHeld ?_
    simp only [Act.put, List.setIfInBounds_toArray, List.set_cons_zero, List.set_cons_succ]
    refine any_take 6 9 (undef) rfl rfl (by kernel_rfl) (by kernel_rfl) (by kernel_rfl) (fun _ _ _ h => h) (Or.inr ⟨by kernel_rfl, rfl⟩) hHeld ?_
    simp only [Act.put, List.setIfInBounds_toArray, List.set_cons_zero, List.set_cons_succ]
    refine any_take 7 10 (undef) rfl rfl (by kernel_rfl) (by kernel_rfl) (by kernel_rfl) (fun _ _ _ h => h) (Or.inr ⟨by kernel_rfl, rfl⟩) hHeld ?_
    simp only [Act.put, List.setIfInBounds_toArray, List.set_cons_zero, List.set_cons_succ]
    refine any_take 8 11 (undef) rfl rfl (by kernel_rfl) (by kernel_rfl) (by kernel_rfl) (fun _ _ _ h => h) (Or.inr ⟨by kernel_rfl, rfl⟩) hHeld ?_
    simp only [Act.put, List.setIfInBounds_toArray, List.set_cons_zero, List.set_cons_succ]
    refine any_take 9 12 (undef) rfl rfl (by kernel_rfl) (by kernel_rfl) (by kernel_rfl) (fun _ _ _ h => h) (Or.inr ⟨by kernel_rfl, rfl⟩) hHeld ?_
    simp only [Act.put, List.setIfInBounds_toArray, List.set_cons_zero, List.set_cons_succ]
    refine any_take 10 13 (undef) rfl rfl (by kernel_rfl) (by kernel_rfl) (by kernel_rfl) (fun _ _ _ h => h) (Or.inr ⟨by kernel_rfl, rfl⟩) hHeld ?_
    simp only [Act.put, List.setIfInBounds_toArray, List.set_cons_zero, List.set_cons_succ]
    refine any_take 11 14 (undef) rfl rfl (by kernel_rfl) (by kernel_rfl) (by kernel_rfl) (fun _ _ _ h => h) (Or.inr ⟨by kernel_rfl, rfl⟩) hHeld ?_
    simp only [Act.put, List.setIfInBounds_toArray, List.set_cons_zero, List.set_cons_succ]
    refine any_take 12 15 (undef) rfl rfl (by kernel_rfl) (by kernel_rfl) (by kernel_rfl) (fun _ _ _ h => h) (Or.inr ⟨by kernel_rfl, rfl⟩) hHeld ?_
    simp only [Act.put, List.setIfInBounds_toArray, List.set_cons_zero, List.set_cons_succ]
    refine any_take 13 16 (undef) rfl rfl (by kernel_rfl) (by kernel_rfl) (by kernel_rfl) (fun _ _ _ h => h) (Or.inr ⟨by kernel_rfl, rfl⟩) hHeld ?_
    simp only [Act.put, List.setIfInBounds_toArray, List.set_cons_zero, List.set_cons_succ]
    refine any_take 14 17 (undef) rfl rfl (by kernel_rfl) (by kernel_rfl) (by kernel_rfl) (fun _ _ _ h => h) (Or.inr ⟨by kernel_rfl, rfl⟩) hHeld ?_
    simp only [Act.put, List.setIfInBounds_toArray, List.set_cons_zero, List.set_cons_succ]
    refine any_take 15 18 (.bool false) rfl rfl (by kernel_rfl) (by kernel_rfl) (by kernel_rfl) (fun _ _ _ h => h) (Or.inl ⟨by rfl, by intro w hSw; go_simp⟩) hHeld ?_
    simp only [Act.put, List.setIfInBounds_toArray, List.set_cons_zero, List.set_cons_succ]
    refine any_take 16 2 (.bool false) rfl rfl (by kernel_rfl) (by kernel_rfl) (by kernel_rfl) (fun _ _ _ h => h) (Or.inl ⟨by rfl, by intro w hSw; go_simp⟩) hHeld ?_
    simp only [Act.put, List.setIfInBounds_toArray, List.set_cons_zero, List.set_cons_succ]
    clear hHeld
    refine wpAnyH_done (by kernel_rfl) ?_ _
    refine NoPanic.normal ?_
    go_wp2
    go_ret
    exact ⟨by simp, 1, rfl⟩
end
end Go.Proofs.YtnocalkloinbbaaDoor
