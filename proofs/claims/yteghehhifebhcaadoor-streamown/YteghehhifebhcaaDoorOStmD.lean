/-
  package stream: Ready, Quiet, Done, Held; Close, Accept, Reset, Cut.
-/
import Derived.Test.YteghehhifebhcaaDoorOStmC
namespace Go.Proofs.YteghehhifebhcaaDoor
open Go.RowKit

section
variable {own own' : Nat → Nat} {i : Nat} {w w' w0 : World} {p : Nat} {A : Nat → Addr} {u : Int} {d : Dm} {cu : Bool} {sx cx ux rx : Value}
theorem haveV {x : Value} {off : Bool} {W : Nat} {c : Int} (h : SendV own i w x off W c) : Calls Tryd.prog 47 #[x] w fun e w' => e = .returned (.int .u32 (if off then 0 else c)) ∧ w' = w := by
  rcases h with ⟨rfl, rfl⟩ | ⟨rfl, q, s, rfl, h⟩
  · exact have_nil w
  · exact haveC h
theorem st_len (h : StmO own i w p d cu u sx cx ux rx) : Calls Tryd.prog 46 #[sx] w fun e w' => e = .returned (.int .i64 d.staged.length) ∧ w' = w := by
  have := Rbyte.lenV h.pt.stg
  rw [bv_length] at this
  exact this
theorem un_len (h : StmO own i w p d cu u sx cx ux rx) : Calls Tryd.prog 46 #[ux] w fun e w' => e = .returned (.int .i64 d.unread.length) ∧ w' = w := by
  have := Rbyte.lenV h.pt.unr
  rw [bv_length] at this
  exact this
theorem StmO.drewN (h : StmO own i w p d cu u sx cx ux rx) (m : Nat) : StmO own i (w.drewN m) p d cu u sx cx ux rx := h.quiet ((Keeps.refl _ _).drewN m)

theorem len_q (h : StmO own i w p d cu u sx cx ux rx) (m : Nat) : Calls Tryd.prog 46 #[sx] (w.drewN m) fun e w' => e = .returned (.int .i64 d.staged.length) ∧ ∃ k, w' = w.drewN k :=
  (st_len (h.drewN m)).mono (fun _ _ x => ⟨x.1, m, x.2⟩)
theorem unl_q (h : StmO own i w p d cu u sx cx ux rx) (m : Nat) : Calls Tryd.prog 46 #[ux] (w.drewN m) fun e w' => e = .returned (.int .i64 d.unread.length) ∧ ∃ k, w' = w.drewN k :=
  (un_len (h.drewN m)).mono (fun _ _ x => ⟨x.1, m, x.2⟩)
theorem quiet_nil (w : World) : Calls Tryd.prog 37 #[.pointer none] w fun e w' => e = .returned (.bool false) ∧ w' = w := by
  go_enter Tryd.func37, Tryd.ntmps37
  go_wp2
  go_ret
  exact ⟨rfl, rfl⟩
theorem quiet_at (h : StmO own i w p d cu u sx cx ux rx) : Calls Tryd.prog 37 #[ptr p] w fun e w' => e = .returned (.bool d.quiet) ∧ w' = w := by
  obtain ⟨-, -, -, c3, -⟩ := h.cells
  rw [← Dm.state_closed]
  clear h
  generalize d.state = s at c3 ⊢
  go_enter Tryd.func37, Tryd.ntmps37
  go_wp2
  go_ret
  exact ⟨rfl, rfl⟩
theorem done_nil (w : World) : Calls Tryd.prog 38 #[.pointer none] w fun e w' => e = .returned (.bool false) ∧ w' = w := by
  go_enter Tryd.func38, Tryd.ntmps38
  go_wp2
  go_ret
  exact ⟨rfl, rfl⟩
theorem done_at (h : StmO own i w p d cu u sx cx ux rx) : Calls Tryd.prog 38 #[ptr p] w fun e w' => e = .returned (.bool d.done) ∧ w' = w := by
  obtain ⟨-, -, -, -, -, -, c6, c7, -⟩ := h.cells
  have M := Aside.mk (wasReset_at h)
  have Q := Aside.mk (quiet_at h)
  have hq := h.pt.cutc
  clear h
  unfold Dm.done
  generalize d.told = t at c6 ⊢
  generalize d.quiet = q at Q ⊢
  cases e : d.drop
  · rw [e] at M
    rw [← hq e]
    clear e hq
    cases cu
    · cases q
      · go_enter Tryd.func38, Tryd.ntmps38
        go_wp2_with (first | (go_at_call 53; refine M.it.mono ?_; rintro e w' ⟨rfl, rfl⟩) | (go_at_call 37; refine Q.it.mono ?_; rintro e w' ⟨rfl, rfl⟩) | fail)
        go_ret
        exact ⟨rfl, rfl⟩
      · go_enter Tryd.func38, Tryd.ntmps38
        go_wp2_with (first | (go_at_call 53; refine M.it.mono ?_; rintro e w' ⟨rfl, rfl⟩) | (go_at_call 37; refine Q.it.mono ?_; rintro e w' ⟨rfl, rfl⟩) | fail)
        go_ret
        exact ⟨rfl, rfl⟩
    · go_enter Tryd.func38, Tryd.ntmps38
      go_wp2_with (first | (go_at_call 53; refine M.it.mono ?_; rintro e w' ⟨rfl, rfl⟩) | fail)
      go_ret
      exact ⟨rfl, rfl⟩
  · rw [e] at M
    clear e hq
    go_enter Tryd.func38, Tryd.ntmps38
    go_wp2_with (first | (go_at_call 53; refine M.it.mono ?_; rintro e w' ⟨rfl, rfl⟩) | fail)
    go_ret
    exact ⟨rfl, rfl⟩
theorem held_nil (w : World) : Calls Tryd.prog 39 #[.pointer none] w fun e w' => e = .returned (.int .i64 0) ∧ w' = w := by
  go_enter Tryd.func39, Tryd.ntmps39
  go_wp2
  go_ret
  exact ⟨rfl, rfl⟩
theorem held_at (h : StmO own i w p d cu u sx cx ux rx) (ok : d.Ok) : Calls Tryd.prog 39 #[ptr p] w fun e w' => e = .returned (.int .i64 d.held) ∧ ∃ m, w' = w.drewN m := by
  obtain ⟨-, -, -, -, -, -, -, -, c8, -, c10, -⟩ := h.cells
  have L1 := Aside.mk (fun m => len_q h m)
  have L2 := Aside.mk (fun m => unl_q h m)
  have a1 := ok.st
  have a2 := ok.stage2
  have a3 := ok.un
  have a4 := ok.win2
  have e1 : IntKind.i64.wrap ((d.staged.length : Int) + d.unread.length) = ((d.held : Nat) : Int) := by
    rw [IntKind.wrap_i64]
    unfold Dm.held
    omega
  clear h ok a1 a2 a3 a4
  generalize d.held = z at e1 ⊢
  generalize d.staged.length = y1 at e1 L1
  generalize d.unread.length = y2 at e1 L2
  go_enter Tryd.func39, Tryd.ntmps39
  go_wp2
  go_quiet (first | (go_at_call 46; with_reducible exact L1.it _) | (go_at_call 46; with_reducible exact L2.it _))
  go_wp2
  go_ret
  exact ⟨rfl, _, rfl⟩
theorem ready_nil (w : World) : Calls Tryd.prog 45 #[.pointer none] w fun e w' => e = .returned (.bool false) ∧ w' = w := by
  go_enter Tryd.func45, Tryd.ntmps45
  go_wp2
  go_ret
  exact ⟨rfl, rfl⟩
theorem ready_at (h : StmO own i w p d cu u sx cx ux rx) (ok : d.Ok) (hb : Behind w) : Calls Tryd.prog 45 #[ptr p] w fun e w' => e = .returned (.bool d.ready) ∧ w' = w := by
  obtain ⟨-, -, c2, -, c4, c5, -, -, c8, c9, -⟩ := h.cells
  have M := Aside.mk (sends_at h hb)
  have L := Aside.mk (st_len h)
  have V := Aside.mk (haveV h.pt.crd)
  have k1 := ok.cr1
  have k2 : (d.staged = []) = (d.staged.length = 0) := by rw [List.length_eq_zero_iff]
  unfold Dm.ready
  simp only [k2]
  clear h ok hb k2
  cases e : d.off
  · rw [e] at M V
    simp only [Bool.not_false, Bool.true_and, Bool.false_eq_true, if_false] at M V ⊢
    clear e
    generalize d.staged.length = n at L ⊢
    generalize d.closing = cl at c5 ⊢
    generalize d.credit = cr at V k1 ⊢
    generalize d.mine = mi at c2 ⊢
    generalize d.acc = ac at c4 ⊢
    cases mi
    · cases ac
      · go_enter Tryd.func45, Tryd.ntmps45
        go_wp2_with (first | (go_at_call 42; refine M.it.mono ?_; rintro e w' ⟨rfl, rfl⟩) | fail)
        all_goals (go_ret; exact ⟨rfl, rfl⟩)
      · rcases Nat.eq_zero_or_pos n with rfl | hn
        · go_enter Tryd.func45, Tryd.ntmps45
          go_wp2_with (first | (go_at_call 42; refine M.it.mono ?_; rintro e w' ⟨rfl, rfl⟩) | (go_at_call 46; refine L.it.mono ?_; rintro e w' ⟨rfl, rfl⟩) | fail)
          all_goals (go_ret; exact ⟨rfl, rfl⟩)
        · have h1 : ¬ (n : Int) = 0 := by omega
          have h2 : ¬ n = 0 := by omega
          have h3 : (!decide (cr = 0)) = decide (0 < cr) := by
            by_cases h : cr = 0
            · subst h; rfl
            · rw [decide_eq_false h, decide_eq_true (by omega)]; rfl
          rw [if_neg h2, ← h3]
          clear h2 h3 k1
          go_enter Tryd.func45, Tryd.ntmps45
          go_wp2_with (first | (go_at_call 42; refine M.it.mono ?_; rintro e w' ⟨rfl, rfl⟩) | (go_at_call 46; refine L.it.mono ?_; rintro e w' ⟨rfl, rfl⟩) | (go_at_call 47; refine V.it.mono ?_; rintro e w' ⟨rfl, rfl⟩) | fail)
          all_goals (go_ret; exact ⟨rfl, rfl⟩)
    · rcases Nat.eq_zero_or_pos n with rfl | hn
      · go_enter Tryd.func45, Tryd.ntmps45
        go_wp2_with (first | (go_at_call 42; refine M.it.mono ?_; rintro e w' ⟨rfl, rfl⟩) | (go_at_call 46; refine L.it.mono ?_; rintro e w' ⟨rfl, rfl⟩) | fail)
        all_goals (go_ret; exact ⟨rfl, rfl⟩)
      · have h1 : ¬ (n : Int) = 0 := by omega
        have h2 : ¬ n = 0 := by omega
        have h3 : (!decide (cr = 0)) = decide (0 < cr) := by
          by_cases h : cr = 0
          · subst h; rfl
          · rw [decide_eq_false h, decide_eq_true (by omega)]; rfl
        rw [if_neg h2, ← h3]
        clear h2 h3 k1
        go_enter Tryd.func45, Tryd.ntmps45
        go_wp2_with (first | (go_at_call 42; refine M.it.mono ?_; rintro e w' ⟨rfl, rfl⟩) | (go_at_call 46; refine L.it.mono ?_; rintro e w' ⟨rfl, rfl⟩) | (go_at_call 47; refine V.it.mono ?_; rintro e w' ⟨rfl, rfl⟩) | fail)
        all_goals (go_ret; exact ⟨rfl, rfl⟩)
  · rw [e] at M
    clear e
    go_enter Tryd.func45, Tryd.ntmps45
    go_wp2_with (first | (go_at_call 42; refine M.it.mono ?_; rintro e w' ⟨rfl, rfl⟩) | fail)
    all_goals (go_ret; exact ⟨rfl, rfl⟩)
end
end Go.Proofs.YteghehhifebhcaaDoor
