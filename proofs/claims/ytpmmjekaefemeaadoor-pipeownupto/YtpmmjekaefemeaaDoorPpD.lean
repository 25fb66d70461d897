/-
  package pipe: New, Len, Passed, Broken, Cut, Put
-/
import Derived.Test.YtpmmjekaefemeaaDoorPpC
namespace Go.Proofs.YtpmmjekaefemeaaDoor
open Go.RowKit

section
variable {own own' : Nat → Nat} {w w' W : World} {rs : List (List Int)} {r r0 L b : List Int} {I : Nat → Prop} {i d p qp gone ps : Nat} {q : List El19} {bg : Value} {cut : Bool}

theorem new19 (w : World) (own : Nat → Nat) (i : Nat) :
    Calls Tryd.prog 9 #[] w fun e w' => ∃ p, ∃ own', e = .returned (ptr p) ∧ Aside (PpO own' i w' p [] 0 false ∧ Sn (fun _ => False) own w own' w') := by
  have N := Aside.mk (Fbs.new_o w maxI maxI (by decide) (by decide) own i)
  go_enter Tryd.func9, Tryd.ntmps9
  go_wp2_with (go_at_call 24; refine N.it.mono ?_; rintro e w1 ⟨qp, rfl, h1, k1⟩)
  go_ret
  have ka : Keeps Nowhere w1 (w1.alloc (.cells #[.slice none 0 0, .int .i64 0, ptr qp, .int .u64 0, .bool false] 60)) := (Keeps.refl _ _).alloc _
  refine ⟨_, give (give own w.heap.size i) w1.heap.size (i + 1), rfl, ⟨.inr ⟨rfl, qp, [], .slice none 0 0, [], [], 0, ⟨⟨Cells.new w1 _ [.slice none 0 0, .int .i64 0, ptr qp, .int .u64 0, .bool false], give_new (Nat.le_refl _)⟩, (h1.it.gave (i + 1)).quiet ka, ⟨(RowB.nil own 0 _).rd, fun g hg => by simp [Value.ownBlock] at hg⟩, trivial, Nat.le_refl _, by decide⟩, rfl⟩, (Sn.quiet k1.it i).trans (Sn.quiet ka (i + 1))⟩⟩
theorem len_nil19 (w : World) : Calls Tryd.prog 13 #[.pointer none] w fun e w' => e = .returned (.int .i64 0) ∧ w' = w := by
  go_enter Tryd.func13, Tryd.ntmps13
  go_wp2
  go_ret
  exact ⟨rfl, rfl⟩
theorem passed_nil19 (w : World) : Calls Tryd.prog 15 #[.pointer none] w fun e w' => e = .returned (.int .u64 0) ∧ w' = w := by
  go_enter Tryd.func15, Tryd.ntmps15
  go_wp2
  go_ret
  exact ⟨rfl, rfl⟩
theorem broken_nil19 (w : World) : Calls Tryd.prog 16 #[.pointer none] w fun e w' => e = .returned (.bool false) ∧ w' = w := by
  go_enter Tryd.func16, Tryd.ntmps16
  go_wp2
  go_ret
  exact ⟨rfl, rfl⟩
theorem cut_nil19 (w : World) : Calls Tryd.prog 17 #[.pointer none] w fun e w' => e = .returned (.int .i64 0) ∧ w' = w := by
  go_enter Tryd.func17, Tryd.ntmps17
  go_wp2
  go_ret
  exact ⟨rfl, rfl⟩
theorem move_nil19 (w : World) (n : Int) : Calls Tryd.prog 14 #[.pointer none, .int .i64 n] w fun e w' => e = .returned (.slice none 0 0) ∧ w' = w := by
  rcases Int.lt_or_le 0 n with h | h
  · go_enter Tryd.func14, Tryd.ntmps14
    go_wp2_with (go_at_call 13; refine (len_nil19 w).mono ?_; rintro e w1 ⟨rfl, rfl⟩)
    go_ret
    exact ⟨rfl, rfl⟩
  · go_enter Tryd.func14, Tryd.ntmps14
    go_wp2_with (go_at_call 13; refine (len_nil19 w).mono ?_; rintro e w1 ⟨rfl, rfl⟩)
    go_ret
    exact ⟨rfl, rfl⟩
theorem put_nil19 (w : World) (x er : Value) (hc : w.cell? ⟨0, 0, none⟩ = some er) : Calls Tryd.prog 11 #[.pointer none, x] w fun e w' => e = .returned (.tuple #[.int .i64 0, er]) ∧ Keeps Nowhere w w' := by
  go_enter Tryd.func11, Tryd.ntmps11
  go_wp2_with fail
  go_region_held_law (fun w' => w'.cell? ⟨0, 0, none⟩ = some er) (exact hc) (fail)
  go_wp2
  go_ret2
  exact ⟨rfl, (Keeps.refl _ _).drew⟩
theorem passed19 (h : PpO own i w p L ps cut) : Calls Tryd.prog 15 #[ptr p] w fun e w' => e = .returned (.int .u64 ps) ∧ w' = w := by
  have c3 : w.cell? ⟨p, 3, none⟩ = some (.int .u64 ps) := by
    rcases h with ⟨_, _, c⟩ | ⟨_, qp, q, bg, r0, rs, gone, h, _⟩
    · exact c.cells.2.2.2.1
    · exact h.cells.2.2.2.1
  clear h
  go_enter Tryd.func15, Tryd.ntmps15
  go_wp2
  go_ret
  exact ⟨rfl, rfl⟩
theorem broken19 (h : PpO own i w p L ps cut) : Calls Tryd.prog 16 #[ptr p] w fun e w' => e = .returned (.bool cut) ∧ w' = w := by
  have c4 : w.cell? ⟨p, 4, none⟩ = some (.bool cut) := by
    rcases h with ⟨rfl, _, c⟩ | ⟨rfl, qp, q, bg, r0, rs, gone, h, _⟩
    · exact c.cells.2.2.2.2.1
    · exact h.cells.2.2.2.2.1
  clear h
  go_enter Tryd.func16, Tryd.ntmps16
  go_wp2
  go_ret
  exact ⟨rfl, rfl⟩
theorem len19 (h : PpO own i w p L ps cut) (hL : L.length ≤ 2199023255551) : Calls Tryd.prog 13 #[ptr p] w fun e w' => e = .returned (.int .i64 L.length) ∧ Aside (Keeps Nowhere w w') := by
  rcases h with ⟨rfl, rfl, c⟩ | ⟨rfl, qp, q, bg, r0, rs, gone, h, rfl⟩
  · obtain ⟨c0, _, c2, _⟩ := c.cells
    clear c hL
    go_enter Tryd.func13, Tryd.ntmps13
    go_wp2_with fail
    go_quiet ((go_at_call 29; exact (Fbs.weight_nil _).mono fun e w' h => ⟨h.1, _, h.2⟩))
    go_wp2
    go_ret
    exact ⟨rfl, ⟨(Keeps.refl _ _).drewN _⟩⟩
  · obtain ⟨c0, _, c2, _⟩ := h.cells
    have WT := Aside.mk (fun n => Fbs.weight_quiet_o h.fifo n)
    rw [h.sum.1] at WT
    rw [List.length_append] at hL ⊢
    obtain ⟨va, vc, hv⟩ := h.bg.shape
    subst hv
    obtain ⟨R, hR⟩ : ∃ R, r0.length = R := ⟨_, rfl⟩
    obtain ⟨T, hT⟩ : ∃ T, rs.flatten.length = T := ⟨_, rfl⟩
    rw [hR] at c0 hL
    rw [hT] at WT hL
    rw [hR, hT]
    have i1 : (R : Int) + T ≤ 9223372036854775807 := by omega
    clear h hR hT hL
    go_enter Tryd.func13, Tryd.ntmps13
    go_wp2_with fail
    go_quiet ((go_at_call 29; exact WT.it _))
    go_wp2
    go_ret
    exact ⟨by rfl, ⟨(Keeps.refl _ _).drewN _⟩⟩
end
end Go.Proofs.YtpmmjekaefemeaaDoor
