/-
  package stream: do, meet: what writes the box.
-/
import Derived.Test.YteghehhifebhcaaDoorOStmB
namespace Go.Proofs.YteghehhifebhcaaDoor
open Go.RowKit

section
variable {own own' : Nat → Nat} {i : Nat} {w w' w0 : World} {p : Nat} {A : Nat → Addr} {u : Int} {d : Dm} {cu : Bool} {sx cx ux rx : Value}
variable {a0 a1 a2 a3 a4 a5 a6 a7 a8 a9 a10 a11 : Value}
theorem do_acc (e : Int) (he : e = 2 ∨ e = 3) (h : Cells w p 96 [a0, a1, a2, a3, a4, a5, a6, a7, a8, a9, a10, a11]) :
    Calls Tryd.prog 62 #[ptr p, .int .i64 e] w fun x w' => x = .returned (.tuple #[]) ∧ Aside (BoxTo p [a0, a1, a2, a3, .bool true, a5, a6, a7, a8, a9, a10, a11] w w') := by
  have c4 : w.cell? ⟨p, 4, none⟩ = some a4 := h.cell 4
  have f4 := h.frozen 4
  have H := Aside.mk h
  clear h
  rcases he with rfl | rfl
  · go_enter Tryd.func62, Tryd.ntmps62
    go_wp2
    go_returns
    exact ⟨rfl, ⟨H.it.setCell 4 _, (Keeps.refl (fun k => k = p) _).setCell _ _ (fun _ => rfl)⟩⟩
  · go_enter Tryd.func62, Tryd.ntmps62
    go_wp2
    go_returns
    exact ⟨rfl, ⟨H.it.setCell 4 _, (Keeps.refl (fun k => k = p) _).setCell _ _ (fun _ => rfl)⟩⟩
theorem do_none (e : Int) (he : e = 0 ∨ e = 1) (h : Cells w p 96 [a0, a1, a2, a3, a4, a5, a6, a7, a8, a9, a10, a11]) :
    Calls Tryd.prog 62 #[ptr p, .int .i64 e] w fun x w' => x = .returned (.tuple #[]) ∧ Aside (BoxTo p [a0, a1, a2, a3, a4, a5, a6, a7, a8, a9, a10, a11] w w') := by
  have H := Aside.mk h
  clear h
  rcases he with rfl | rfl
  · go_enter Tryd.func62, Tryd.ntmps62
    go_wp2
    go_returns
    exact ⟨rfl, ⟨H.it, Keeps.refl _ _⟩⟩
  · go_enter Tryd.func62, Tryd.ntmps62
    go_wp2
    go_returns
    exact ⟨rfl, ⟨H.it, Keeps.refl _ _⟩⟩
theorem do_heard (h : Cells w p 96 [a0, a1, a2, a3, a4, a5, a6, a7, a8, a9, a10, a11]) :
    Calls Tryd.prog 62 #[ptr p, .int .i64 5] w fun x w' => x = .returned (.tuple #[]) ∧ Aside (BoxTo p [a0, a1, a2, a3, a4, a5, a6, a7, a8, a9, a10, .pointer none] w w') := by
  have c11 : w.cell? ⟨p, 11, none⟩ = some a11 := h.cell 11
  have f11 := h.frozen 11
  have H := Aside.mk h
  clear h
  go_enter Tryd.func62, Tryd.ntmps62
  go_wp2
  go_returns
  exact ⟨rfl, ⟨H.it.setCell 11 _, (Keeps.refl (fun k => k = p) _).setCell _ _ (fun _ => rfl)⟩⟩
theorem do_last (h : Cells w p 96 [a0, a1, a2, a3, a4, a5, a6, a7, a8, a9, a10, a11]) :
    Calls Tryd.prog 62 #[ptr p, .int .i64 4] w fun x w' => x = .returned (.tuple #[]) ∧ Aside (BoxTo p [a0, a1, a2, a3, a4, a5, a6, a7, .pointer none, .pointer none, a10, a11] w w') := by
  have c8 : w.cell? ⟨p, 8, none⟩ = some a8 := h.cell 8
  have c9 : w.cell? ⟨p, 9, none⟩ = some a9 := h.cell 9
  have f8 := h.frozen 8
  have f9 := h.frozen 9
  have H := Aside.mk h
  clear h
  go_enter Tryd.func62, Tryd.ntmps62
  go_wp2
  go_returns
  exact ⟨rfl, ⟨(H.it.setCell 8 _).setCell 9 _, ((Keeps.refl (fun k => k = p) _).setCell _ _ (fun _ => rfl)).setCell _ _ (fun _ => rfl)⟩⟩
theorem do_cut (h : Cells w p 96 [a0, a1, a2, a3, a4, a5, a6, a7, a8, a9, a10, a11]) :
    Calls Tryd.prog 62 #[ptr p, .int .i64 7] w fun x w' => x = .returned (.tuple #[]) ∧ Aside (BoxTo p [a0, a1, a2, a3, a4, a5, a6, a7, .pointer none, .pointer none, a10, .pointer none] w w') := by
  have c8 : w.cell? ⟨p, 8, none⟩ = some a8 := h.cell 8
  have c9 : w.cell? ⟨p, 9, none⟩ = some a9 := h.cell 9
  have c11 : w.cell? ⟨p, 11, none⟩ = some a11 := h.cell 11
  have f8 := h.frozen 8
  have f9 := h.frozen 9
  have f11 := h.frozen 11
  have H := Aside.mk h
  clear h
  go_enter Tryd.func62, Tryd.ntmps62
  go_wp2
  go_returns
  exact ⟨rfl, ⟨((H.it.setCell 11 _).setCell 8 _).setCell 9 _, (((Keeps.refl (fun k => k = p) _).setCell _ _ (fun _ => rfl)).setCell _ _ (fun _ => rfl)).setCell _ _ (fun _ => rfl)⟩⟩
theorem do_drop (h : Cells w p 96 [a0, a1, a2, a3, a4, a5, a6, a7, a8, a9, a10, a11]) :
    Calls Tryd.prog 62 #[ptr p, .int .i64 6] w fun x w' => x = .returned (.tuple #[]) ∧ Aside (BoxTo p [a0, a1, a2, a3, a4, a5, a6, a7, .pointer none, .pointer none, .pointer none, .pointer none] w w') := by
  have c8 : w.cell? ⟨p, 8, none⟩ = some a8 := h.cell 8
  have c9 : w.cell? ⟨p, 9, none⟩ = some a9 := h.cell 9
  have c10 : w.cell? ⟨p, 10, none⟩ = some a10 := h.cell 10
  have c11 : w.cell? ⟨p, 11, none⟩ = some a11 := h.cell 11
  have f8 := h.frozen 8
  have f9 := h.frozen 9
  have f10 := h.frozen 10
  have f11 := h.frozen 11
  have H := Aside.mk h
  clear h
  go_enter Tryd.func62, Tryd.ntmps62
  go_wp2
  go_returns
  exact ⟨rfl, ⟨(((H.it.setCell 10 _).setCell 11 _).setCell 8 _).setCell 9 _, ((((Keeps.refl (fun k => k = p) _).setCell _ _ (fun _ => rfl)).setCell _ _ (fun _ => rfl)).setCell _ _ (fun _ => rfl)).setCell _ _ (fun _ => rfl)⟩⟩
theorem meet_by {s e : Int} {cs : List Value} (h9 : St9 A w) (h : Cells w p 96 [a0, a1, a2, .int .i64 s, a4, a5, a6, a7, a8, a9, a10, a11])
    (hd : ∀ w', Cells w' p 96 [a0, a1, a2, .int .i64 (nxS s e), a4, a5, a6, a7, a8, a9, a10, a11] → Calls Tryd.prog 62 #[ptr p, .int .i64 e] w' fun x w'' => x = .returned (.tuple #[]) ∧ Aside (BoxTo p cs w' w'')) :
    Calls Tryd.prog 33 #[ptr p, .int .i64 e] w fun x w'' => x = .returned (.tuple #[]) ∧ Aside (BoxTo p cs w w'') := by
  have c3 : w.cell? ⟨p, 3, none⟩ = some (.int .i64 s) := h.cell 3
  have f3 := h.frozen 3
  have N := Aside.mk (next_any s e h9)
  have H := Aside.mk h
  have D := Aside.mk hd
  clear h hd h9
  go_enter Tryd.func33, Tryd.ntmps33
  go_upto_region 1 with (first | (go_at_call 61; refine N.it.mono ?_; rintro x w1 ⟨v, rfl, hv, m, rfl⟩) | fail)
  have H1 := Aside.mk ((H.it.drewN m).setCell 3 (.int .i64 (nxS s e)))
  have K1 := Aside.mk (((Keeps.refl (fun k => k = p) w).drewN m).setCell ⟨p, 3, none⟩ (.int .i64 (nxS s e)) (fun _ => rfl))
  go_wp2_with (first | (go_at_call 62; refine (D.it _ H1.it).mono ?_; rintro x w2 ⟨rfl, X⟩) | fail)
  go_returns
  exact ⟨rfl, ⟨X.it.1, K1.it.trans X.it.2⟩⟩
end
section
variable {own own' : Nat → Nat} {i : Nat} {w w' w0 : World} {p : Nat} {A : Nat → Addr} {u : Int} {d : Dm} {cu : Bool} {sx cx ux rx : Value}
/-- behind a call: the stream, and only blocks of i's changed -/
def Met (own : Nat → Nat) (i : Nat) (w : World) (p : Nat) (d : Dm) (cu : Bool) (u : Int) (sx cx ux rx : Value) (w' : World) : Prop := StmO own i w' p d cu u sx cx ux rx ∧ Sn (fun k => k = i) own w own w'
theorem meet_acc (h : StmO own i w p d cu u sx cx ux rx) (h9 : St9 A w) (h1 : d.drop = false) (h2 : d.acc = false) (e : Int) (he : e = if d.mine then 3 else 2) :
    Calls Tryd.prog 33 #[ptr p, .int .i64 e] w fun x w' => x = .returned (.tuple #[]) ∧ Aside (Met own i w p { d with acc := true } cu u sx cx ux rx w') := by
  refine (meet_by h9 h.box.1 (fun w' hc => do_acc e (by rw [he]; cases d.mine <;> simp) hc)).mono ?_
  rintro x w' ⟨rfl, X⟩
  rw [he, nx_acc d h1 h2] at X
  exact ⟨rfl, ⟨StmO.put X.it h.box.2 h.pt.accepted, X.it.sn h.box.2⟩⟩
theorem meet_heard (h : StmO own i w p d cu u sx cx ux rx) (h9 : St9 A w) (h1 : d.drop = false) (h2 : d.heard = false) :
    Calls Tryd.prog 33 #[ptr p, .int .i64 5] w fun x w' => x = .returned (.tuple #[]) ∧ Aside (Met own i w p d.ends cu u sx cx ux (.pointer none) w') := by
  refine (meet_by h9 h.box.1 (fun w' hc => do_heard hc)).mono ?_
  rintro x w' ⟨rfl, X⟩
  rw [nx_heard d h1 h2] at X
  exact ⟨rfl, ⟨StmO.put X.it h.box.2 h.pt.heard, X.it.sn h.box.2⟩⟩
theorem meet_last (h : StmO own i w p d cu u sx cx ux rx) (h9 : St9 A w) (h1 : d.drop = false) (h2 : d.last = false) (hs : d.staged = []) :
    Calls Tryd.prog 33 #[ptr p, .int .i64 4] w fun x w' => x = .returned (.tuple #[]) ∧ Aside (Met own i w p { d with last := true } cu u (.pointer none) (.pointer none) ux rx w') := by
  refine (meet_by h9 h.box.1 (fun w' hc => do_last hc)).mono ?_
  rintro x w' ⟨rfl, X⟩
  rw [nx_last d h1 h2] at X
  exact ⟨rfl, ⟨StmO.put X.it h.box.2 (h.pt.lasted hs), X.it.sn h.box.2⟩⟩
theorem meet_drop (h : StmO own i w p d cu u sx cx ux rx) (h9 : St9 A w) :
    Calls Tryd.prog 33 #[ptr p, .int .i64 6] w fun x w' => x = .returned (.tuple #[]) ∧ Aside (Met own i w p d.dropD cu u (.pointer none) (.pointer none) (.pointer none) (.pointer none) w') := by
  refine (meet_by h9 h.box.1 (fun w' hc => do_drop hc)).mono ?_
  rintro x w' ⟨rfl, X⟩
  rw [nx_drop d] at X
  exact ⟨rfl, ⟨StmO.put X.it h.box.2 (PartsO.dropped own i w d cu u), X.it.sn h.box.2⟩⟩
end
end Go.Proofs.YteghehhifebhcaaDoor
