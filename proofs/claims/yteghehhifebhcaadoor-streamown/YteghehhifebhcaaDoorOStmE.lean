/-
  package stream: Close, Accept, Reset, Cut, Write.
-/
import Derived.Test.YteghehhifebhcaaDoorOStmD
namespace Go.Proofs.YteghehhifebhcaaDoor
open Go.RowKit

/-- a stream's owners -/
def Five (i : Nat) : Nat → Prop := fun k => i ≤ k ∧ k < i + 5
section
variable {own own' : Nat → Nat} {i : Nat} {w w' w0 : World} {p : Nat} {A : Nat → Addr} {u : Int} {d : Dm} {cu : Bool} {sx cx ux rx : Value} {I : Nat → Prop}
/-- a stream, as others see it -/
structure StmI (own : Nat → Nat) (i : Nat) (w : World) (p : Nat) (d : Dm) : Prop where
  ok : d.Ok
  at_ : ∃ cu u sx cx ux rx, StmO own i w p d cu u sx cx ux rx ∧ (d.deaf = false → u = d.unread.length)
theorem StmI.sn (h : StmI own i w p d) (s : Sn I own w own' w') (hi : ∀ k, i ≤ k → k < i + 5 → ¬ I k) : StmI own' i w' p d := by
  obtain ⟨ok, cu, u, sx, cx, ux, rx, H, e⟩ := h
  exact ⟨ok, cu, u, sx, cx, ux, rx, H.sn s hi, e⟩
theorem StmI.quiet (h : StmI own i w p d) (k : Keeps Nowhere w w') : StmI own i w' p d := h.sn (I := fun _ => False) (Sn.same k) (fun _ _ _ x => x)
theorem StmI.lt (h : StmI own i w p d) : p < w.heap.size := by
  obtain ⟨_, _, _, _, _, _, _, H, _⟩ := h
  exact H.box.1.lt
theorem StmI.has (h : StmI own i w p d) : own p = i := by
  obtain ⟨_, _, _, _, _, _, _, H, _⟩ := h
  exact H.box.2
theorem Sn.five {own own' : Nat → Nat} {i j : Nat} {w w' : World} (s : Sn (fun k => k = j) own w own' w') (h1 : i ≤ j) (h2 : j < i + 5) : Sn (Five i) own w own' w' := s.mono (fun k e => by subst e; exact ⟨h1, h2⟩)
/-- what a call leaves -/
def Left5 (own : Nat → Nat) (i : Nat) (w : World) (p : Nat) (d : Dm) (w' : World) : Prop := ∃ own', StmI own' i w' p d ∧ Sn (Five i) own w own' w'
theorem Left5.same (h : StmI own i w p d) : Left5 own i w p d w := ⟨own, h, Sn.refl _ _ _⟩
theorem Left5.drew (h : StmI own i w p d) (m : Nat) : Left5 own i w p d (w.drewN m) := ⟨own, h.quiet ((Keeps.refl _ _).drewN m), Sn.same ((Keeps.refl _ _).drewN m)⟩

theorem close_nil (hs : SentO A w) : Calls Tryd.prog 19 #[.pointer none] w fun e w' => ∃ v, e = .returned v ∧ Hid (Coded A v 1) ∧ w' = w := by
  have M := Aside.mk (shut_nil hs)
  clear hs
  go_enter Tryd.func19, Tryd.ntmps19
  go_upto_region 2 with (first | (go_at_call 40; refine M.it.mono ?_; rintro e w' ⟨v, rfl, hv, rfl⟩) | fail)
  obtain ⟨a, rfl⟩ := Coded.pos hv (by decide)
  go_wp2
  go_ret
  exact ⟨_, rfl, hv, rfl⟩
theorem wr_cases (d : Dm) : (d.wrE ≠ 0 ∧ (d.drop || d.cut || d.closing) = true) ∨ (d.wrE = 0 ∧ (d.drop || d.cut || d.closing) = false ∧ d.drop = false ∧ d.cut = false ∧ d.closing = false) := by
  unfold Dm.wrE
  cases d.drop <;> cases d.cut <;> cases d.closing <;> simp
theorem close_at (h : StmI own i w p d) (hs : SentO A w) : Calls Tryd.prog 19 #[ptr p] w fun e w' => ∃ v, e = .returned v ∧ Hid (Coded A v d.wrE) ∧ Aside (Left5 own i w p d.clD w') := by
  have H := Aside.mk h
  obtain ⟨ok, cu, u, sx, cx, ux, rx, h, hu⟩ := h
  have M := Aside.mk (shut_at h hs)
  clear hs
  rcases wr_cases d with ⟨e1, e2⟩ | ⟨e1, e2, e3, e4, e5⟩
  · have e : d.clD = d := if_pos e2
    rw [e]
    clear e e2 h hu
    go_enter Tryd.func19, Tryd.ntmps19
    go_upto_region 2 with (first | (go_at_call 40; refine M.it.mono ?_; rintro e w' ⟨v, rfl, hv, rfl⟩) | fail)
    obtain ⟨a, rfl⟩ := Coded.pos hv e1
    go_wp2
    go_ret
    exact ⟨_, rfl, hv, ⟨Left5.same H.it⟩⟩
  · have e : d.clD = { d with closing := true } := if_neg (by rw [e2]; decide)
    have okk := Dm.clD_ok ok
    rw [e] at okk ⊢
    rw [e1] at M ⊢
    have c5 : w.cell? ⟨p, 5, none⟩ = some (.bool d.closing) := h.box.1.cell 5
    have f5 := h.box.1.frozen 5
    have X : Aside (Left5 own i w p { d with closing := true } (w.setCell ⟨p, 5, none⟩ (.bool true))) := by
      have hb : BoxTo p (stmCells { d with closing := true } cu sx cx ux rx) w (w.setCell ⟨p, 5, none⟩ (.bool true)) := ⟨h.box.1.setCell 5 (.bool true), (Keeps.refl (fun k => k = p) _).setCell _ _ (fun _ => rfl)⟩
      exact ⟨own, ⟨okk, cu, u, sx, cx, ux, rx, StmO.put hb h.box.2 ⟨h.pt.cutc, h.pt.stg, h.pt.crd, h.pt.unr, h.pt.wnd⟩, hu⟩, (hb.sn h.box.2).five (Nat.le_refl _) (by omega)⟩
    clear e e2 e3 e4 e5 e1 h hu ok okk H
    go_enter Tryd.func19, Tryd.ntmps19
    go_upto_region 2 with (first | (go_at_call 40; refine M.it.mono ?_; rintro e w' ⟨v, rfl, hv, rfl⟩) | fail)
    obtain rfl := Coded.zero hv
    go_wp2
    go_ret
    exact ⟨_, rfl, Coded.none, X⟩
theorem accept_nil (hs : SentO A w) : Calls Tryd.prog 11 #[.pointer none] w fun e w' => ∃ v, e = .returned v ∧ Hid (Coded A v 1) ∧ w' = w := by
  have M := Aside.mk (lost_nil hs)
  clear hs
  go_enter Tryd.func11, Tryd.ntmps11
  go_upto_region 2 with (first | (go_at_call 36; refine M.it.mono ?_; rintro e w' ⟨v, rfl, hv, rfl⟩) | fail)
  obtain ⟨a, rfl⟩ := Coded.pos hv (by decide)
  go_wp2
  go_ret
  exact ⟨_, rfl, hv, rfl⟩
theorem acc_cases (d : Dm) : (d.gone ≠ 0 ∧ d.accE = d.gone ∧ d.accD = d) ∨ (d.gone = 0 ∧ d.acc = true ∧ d.accE = 23 ∧ d.accD = d) ∨ (d.gone = 0 ∧ d.acc = false ∧ d.accE = 0 ∧ d.accD = { d with acc := true } ∧ d.drop = false) := by
  unfold Dm.gone Dm.accE Dm.accD
  cases d.drop <;> cases d.cut <;> cases d.acc <;> simp
theorem accept_at (h : StmI own i w p d) (h9 : St9 A w) : Calls Tryd.prog 11 #[ptr p] w fun e w' => ∃ v, e = .returned v ∧ Hid (Coded A v d.accE) ∧ Aside (Left5 own i w p d.accD w') := by
  have H := Aside.mk h
  obtain ⟨ok, cu, u, sx, cx, ux, rx, h, hu⟩ := h
  have M := Aside.mk (lost_at h h9.s)
  rcases acc_cases d with ⟨e1, e2, e3⟩ | ⟨e1, e2, e3, e4⟩ | ⟨e1, e2, e3, e4, e5⟩
  · rw [e2, e3]
    clear e2 e3 h hu h9
    go_enter Tryd.func11, Tryd.ntmps11
    go_upto_region 2 with (first | (go_at_call 36; refine M.it.mono ?_; rintro e w' ⟨v, rfl, hv, rfl⟩) | fail)
    obtain ⟨a, rfl⟩ := Coded.pos hv e1
    go_wp2
    go_ret
    exact ⟨_, rfl, hv, ⟨Left5.same H.it⟩⟩
  · rw [e3, e4]
    rw [e1] at M
    have c4 : w.cell? ⟨p, 4, none⟩ = some (.bool d.acc) := h.box.1.cell 4
    have r1 := h9.s.cell 22 2 rfl
    rw [e2] at c4
    clear e1 e2 e3 e4 h hu h9
    go_enter Tryd.func11, Tryd.ntmps11
    go_upto_region 2 with (first | (go_at_call 36; refine M.it.mono ?_; rintro e w' ⟨v, rfl, hv, rfl⟩) | fail)
    obtain rfl := Coded.zero hv
    go_wp2
    go_ret
    exact ⟨_, rfl, Coded.mk 22 23 (by decide) (by decide) rfl, ⟨Left5.same H.it⟩⟩
  · have okk := Dm.accD_ok ok
    rw [e3]
    rw [e4] at okk ⊢
    rw [e1] at M
    have c4 : w.cell? ⟨p, 4, none⟩ = some (.bool d.acc) := h.box.1.cell 4
    have c2 : w.cell? ⟨p, 2, none⟩ = some (.bool d.mine) := h.box.1.cell 2
    have D := Aside.mk (fun e he => meet_acc h h9 e5 e2 e he)
    have X : Aside (∀ w', Met own i w p { d with acc := true } cu u sx cx ux rx w' → Left5 own i w p { d with acc := true } w') :=
      ⟨fun w' m => ⟨own, ⟨okk, cu, u, sx, cx, ux, rx, m.1, hu⟩, m.2.five (Nat.le_refl _) (by omega)⟩⟩
    rw [e2] at c4
    clear e1 e2 e3 e4 e5 h hu h9 ok okk H
    rcases (Bool.eq_false_or_eq_true d.mine).symm with e | e
    · have D2 := Aside.mk (D.it 2 (by rw [e]; rfl))
      rw [e] at c2
      clear e D
      go_enter Tryd.func11, Tryd.ntmps11
      go_upto_region 2 with (first | (go_at_call 36; refine M.it.mono ?_; rintro e w' ⟨v, rfl, hv, rfl⟩) | fail)
      obtain rfl := Coded.zero hv
      go_wp2_with (first | (go_at_call 33; refine D2.it.mono ?_; rintro e w2 ⟨rfl, Y⟩) | fail)
      go_ret
      exact ⟨_, rfl, Coded.none, ⟨X.it _ Y.it⟩⟩
    · have D3 := Aside.mk (D.it 3 (by rw [e]; rfl))
      rw [e] at c2
      clear e D
      go_enter Tryd.func11, Tryd.ntmps11
      go_upto_region 2 with (first | (go_at_call 36; refine M.it.mono ?_; rintro e w' ⟨v, rfl, hv, rfl⟩) | fail)
      obtain rfl := Coded.zero hv
      go_wp2_with (first | (go_at_call 33; refine D3.it.mono ?_; rintro e w2 ⟨rfl, Y⟩) | fail)
      go_ret
      exact ⟨_, rfl, Coded.none, ⟨X.it _ Y.it⟩⟩
theorem reset_nil (w : World) : Calls Tryd.prog 58 #[.pointer none] w fun e w' => e = .returned (.tuple #[]) ∧ w' = w := by
  go_enter Tryd.func58, Tryd.ntmps58
  go_wp2
  go_returns
  exact ⟨rfl, rfl⟩
theorem cut_nil (w : World) : Calls Tryd.prog 57 #[.pointer none] w fun e w' => e = .returned (.tuple #[]) ∧ w' = w := by
  go_enter Tryd.func57, Tryd.ntmps57
  go_wp2
  go_returns
  exact ⟨rfl, rfl⟩
theorem reset_at (h : StmI own i w p d) (h9 : St9 A w) : Calls Tryd.prog 58 #[ptr p] w fun e w' => e = .returned (.tuple #[]) ∧ Aside (Left5 own i w p d.dropD w') := by
  obtain ⟨ok, cu, u, sx, cx, ux, rx, h, hu⟩ := h
  have D := Aside.mk (meet_drop h h9)
  have okk := Aside.mk (Dm.dropD_ok ok)
  clear h hu ok h9
  go_enter Tryd.func58, Tryd.ntmps58
  go_wp2_with (first | (go_at_call 33; refine D.it.mono ?_; rintro e w2 ⟨rfl, Y⟩) | fail)
  go_returns
  exact ⟨rfl, ⟨own, ⟨okk.it, cu, u, _, _, _, _, Y.it.1, fun e => by simp [Dm.dropD, Dm.deaf] at e⟩, Y.it.2.five (Nat.le_refl _) (by omega)⟩⟩
theorem cut_cells (d : Dm) (ux : Value) : stmCells d.cutD true (.pointer none) (.pointer none) ux (.pointer none) = [.int .u32 d.id, .int .i64 d.frame, .bool d.mine, .int .i64 d.state, .bool d.acc, .bool d.closing, .bool d.told, .bool true, .pointer none, .pointer none, ux, .pointer none] := by
  unfold Dm.cutD
  split <;> rfl
theorem cut_at (h : StmI own i w p d) : Calls Tryd.prog 57 #[ptr p] w fun e w' => e = .returned (.tuple #[]) ∧ Aside (Left5 own i w p d.cutD w') := by
  obtain ⟨ok, cu, u, sx, cx, ux, rx, h, hu⟩ := h
  have c7 : w.cell? ⟨p, 7, none⟩ = some (.bool cu) := h.box.1.cell 7
  have f7 := h.box.1.frozen 7
  have C1 := h.box.1.setCell 7 (.bool true)
  have D := Aside.mk (do_cut C1)
  have okk := Aside.mk (Dm.cutD_ok ok)
  have P := Aside.mk (h.pt.severed ok)
  have O := Aside.mk h.box.2
  clear h hu C1
  go_enter Tryd.func57, Tryd.ntmps57
  go_wp2_with (first | (go_at_call 62; refine D.it.mono ?_; rintro e w2 ⟨rfl, Y⟩) | fail)
  go_returns
  have hb : BoxTo p (stmCells d.cutD true (.pointer none) (.pointer none) ux (.pointer none)) w w2 := by
    rw [cut_cells]
    exact ⟨Y.it.1, ((Keeps.refl (fun k => k = p) _).setCell _ _ (fun _ => rfl)).trans Y.it.2⟩
  refine ⟨rfl, ⟨own, ⟨okk.it, true, u, _, _, _, _, StmO.put hb O.it P.it, fun e => ?_⟩, (hb.sn O.it).five (Nat.le_refl _) (by omega)⟩⟩
  revert e
  unfold Dm.cutD Dm.deaf
  split
  · next h => simp [h]
  · simp
end
end Go.Proofs.YteghehhifebhcaaDoor
