/-
  package stream: what only reads the box; what writes it.
-/
import Derived.Test.YteghehhifebhcaaDoorOStmA
namespace Go.Proofs.YteghehhifebhcaaDoor
open Go.RowKit

section
variable {own own' : Nat → Nat} {i : Nat} {w w' w0 : World} {p : Nat} {A : Nat → Addr} {u : Int} {d : Dm} {cu : Bool} {sx cx ux rx : Value}
theorem wasReset_at (h : StmO own i w p d cu u sx cx ux rx) : Calls Tryd.prog 53 #[ptr p] w fun e w' => e = .returned (.bool d.drop) ∧ w' = w := by
  obtain ⟨-, -, -, c3, -⟩ := h.cells
  rw [← Dm.state_drop]
  clear h
  generalize d.state = s at c3 ⊢
  go_enter Tryd.func53, Tryd.ntmps53
  go_wp2_with (first | (go_at_call 75; refine (final_any s _).mono ?_; rintro e w' ⟨rfl, rfl⟩) | fail)
  go_ret
  exact ⟨rfl, rfl⟩
theorem sends_at (h : StmO own i w p d cu u sx cx ux rx) (hb : Behind w) : Calls Tryd.prog 42 #[ptr p] w fun e w' => e = .returned (.bool (!d.off)) ∧ w' = w := by
  obtain ⟨-, -, -, c3, -, -, -, c7, -⟩ := h.cells
  rw [← sends_val h.pt.cutc]
  clear h
  have M := Aside.mk (sends_any d.state hb)
  clear hb
  generalize d.state = s at c3 M ⊢
  cases cu
  · go_enter Tryd.func42, Tryd.ntmps42
    go_wp2_with (first | (go_at_call 68; refine M.it.mono ?_; rintro e w' ⟨rfl, rfl⟩) | fail)
    go_ret
    exact ⟨rfl, rfl⟩
  · go_enter Tryd.func42, Tryd.ntmps42
    go_wp2_with fail
    go_ret
    exact ⟨rfl, rfl⟩
theorem hears_at (h : StmO own i w p d cu u sx cx ux rx) (hb : Behind w) : Calls Tryd.prog 44 #[ptr p] w fun e w' => e = .returned (.bool (!d.deaf)) ∧ w' = w := by
  obtain ⟨-, -, -, c3, -, -, -, c7, -⟩ := h.cells
  rw [← hears_val h.pt.cutc]
  clear h
  have M := Aside.mk (hears_any d.state hb)
  clear hb
  generalize d.state = s at c3 M ⊢
  cases cu
  · go_enter Tryd.func44, Tryd.ntmps44
    go_wp2_with (first | (go_at_call 70; refine M.it.mono ?_; rintro e w' ⟨rfl, rfl⟩) | fail)
    go_ret
    exact ⟨rfl, rfl⟩
  · go_enter Tryd.func44, Tryd.ntmps44
    go_wp2_with fail
    go_ret
    exact ⟨rfl, rfl⟩
theorem lost_nil (hs : SentO A w) : Calls Tryd.prog 36 #[.pointer none] w fun e w' => ∃ v, e = .returned v ∧ Hid (Coded A v 1) ∧ w' = w := by
  have hc := hs.cell 0 3 rfl
  clear hs
  go_enter Tryd.func36, Tryd.ntmps36
  go_wp2
  go_ret
  exact ⟨_, rfl, Coded.mk 0 1 (by decide) (by decide) rfl, rfl⟩
theorem lost_at (h : StmO own i w p d cu u sx cx ux rx) (hs : SentO A w) : Calls Tryd.prog 36 #[ptr p] w fun e w' => ∃ v, e = .returned v ∧ Hid (Coded A v d.gone) ∧ w' = w := by
  obtain ⟨-, -, -, -, -, -, -, c7, -⟩ := h.cells
  have r1 := hs.cell 25 4 rfl
  have r2 := hs.cell 26 26 rfl
  have M := Aside.mk (wasReset_at h)
  have hq := h.pt.cutc
  clear h hs
  unfold Dm.gone
  cases e : d.drop
  · rw [e] at M
    rw [← hq e]
    clear e hq
    cases cu
    · go_enter Tryd.func36, Tryd.ntmps36
      go_wp2_with (first | (go_at_call 53; refine M.it.mono ?_; rintro e w' ⟨rfl, rfl⟩) | fail)
      go_ret
      exact ⟨_, rfl, Coded.none, rfl⟩
    · go_enter Tryd.func36, Tryd.ntmps36
      go_wp2_with (first | (go_at_call 53; refine M.it.mono ?_; rintro e w' ⟨rfl, rfl⟩) | fail)
      go_ret
      exact ⟨_, rfl, Coded.mk 26 27 (by decide) (by decide) rfl, rfl⟩
  · rw [e] at M
    clear e hq
    go_enter Tryd.func36, Tryd.ntmps36
    go_wp2_with (first | (go_at_call 53; refine M.it.mono ?_; rintro e w' ⟨rfl, rfl⟩) | fail)
    go_ret
    exact ⟨_, rfl, Coded.mk 25 26 (by decide) (by decide) rfl, rfl⟩
theorem shut_nil (hs : SentO A w) : Calls Tryd.prog 40 #[.pointer none] w fun e w' => ∃ v, e = .returned v ∧ Hid (Coded A v 1) ∧ w' = w := by
  have M := Aside.mk (lost_nil hs)
  clear hs
  go_enter Tryd.func40, Tryd.ntmps40
  go_upto_region 2 with (first | (go_at_call 36; refine M.it.mono ?_; rintro e w' ⟨v, rfl, hv, rfl⟩) | fail)
  obtain ⟨a, rfl⟩ := Coded.pos hv (by decide)
  go_wp2
  go_ret
  exact ⟨_, rfl, hv, rfl⟩
theorem gone_wr (d : Dm) : (d.gone ≠ 0 ∧ d.wrE = d.gone) ∨ (d.gone = 0 ∧ d.wrE = if d.closing then 24 else 0) := by
  unfold Dm.gone Dm.wrE
  cases d.drop <;> cases d.cut <;> simp
theorem shut_at (h : StmO own i w p d cu u sx cx ux rx) (hs : SentO A w) : Calls Tryd.prog 40 #[ptr p] w fun e w' => ∃ v, e = .returned v ∧ Hid (Coded A v d.wrE) ∧ w' = w := by
  obtain ⟨-, -, -, -, -, c5, -⟩ := h.cells
  have r1 := hs.cell 23 24 rfl
  have M := Aside.mk (lost_at h hs)
  clear h hs
  rcases gone_wr d with ⟨e1, e2⟩ | ⟨e1, e2⟩
  · rw [e2]
    go_enter Tryd.func40, Tryd.ntmps40
    go_upto_region 2 with (first | (go_at_call 36; refine M.it.mono ?_; rintro e w' ⟨v, rfl, hv, rfl⟩) | fail)
    obtain ⟨a, rfl⟩ := Coded.pos hv e1
    go_wp2
    go_ret
    exact ⟨_, rfl, hv, rfl⟩
  · rw [e2]
    rw [e1] at M
    clear e1 e2
    generalize d.closing = cl at c5 ⊢
    cases cl
    · go_enter Tryd.func40, Tryd.ntmps40
      go_upto_region 2 with (first | (go_at_call 36; refine M.it.mono ?_; rintro e w' ⟨v, rfl, hv, rfl⟩) | fail)
      obtain rfl := Coded.zero hv
      go_wp2
      go_ret
      exact ⟨_, rfl, Coded.none, rfl⟩
    · go_enter Tryd.func40, Tryd.ntmps40
      go_upto_region 2 with (first | (go_at_call 36; refine M.it.mono ?_; rintro e w' ⟨v, rfl, hv, rfl⟩) | fail)
      obtain rfl := Coded.zero hv
      go_wp2
      go_ret
      exact ⟨_, rfl, Coded.mk 23 24 (by decide) (by decide) rfl, rfl⟩
end
end Go.Proofs.YteghehhifebhcaaDoor
