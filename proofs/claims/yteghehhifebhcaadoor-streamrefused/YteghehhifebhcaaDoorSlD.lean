/-
  layer 10's laws: Begin.
-/
import Derived.Test.YteghehhifebhcaaDoorSlC
import Derived.Deep.RegionHeld3
namespace Go.Proofs.YteghehhifebhcaaDoor
open Go.RowKit

section
variable {own own' : Nat → Nat} {i : Nat} {w w' w0 : World} {p : Nat} {A : Nat → Addr} {d : Dm} {I : Nat → Prop} {g k p0 p1 : Nat} {W W' : World}
/-- between the two stores of a round -/
structure Bm (A : Nat → Addr) (w0 : World) (g : Nat) (cs : List Value) (own : Nat → Nat) (W : World) : Prop where
  gs : Gs A w0 own W
  box : CellsO own 11 W g 81 cs
theorem Sn.eleven {cs : List Value} (h : CellsO own 11 W g 81 cs) (j : Nat) (v : Value) : Sn (fun k => k = 11) own W own (W.setCell ⟨g, j, none⟩ v) := ⟨fun _ _ => rfl, (Keeps.refl _ _).setCell _ _ (fun _ => h.2)⟩
set_option maxHeartbeats 2000000 in
theorem bg_store0 (h : CellsO own 11 W g 81 (pairL (ptr p0) (.pointer none) refZ refZ false false)) : CellsO own 11 (((((((((((((((((W.setCell ⟨g, 2, none⟩ (.int .u32 1)).setCell ⟨g, 3, none⟩ (.int .i64 4)).setCell ⟨g, 4, none⟩ (.int .i64 6)).setCell ⟨g, 5, none⟩ (.int .i64 3)).setCell ⟨g, 6, none⟩ (.bool true)).setCell ⟨g, 7, none⟩ (.bool false)).setCell ⟨g, 8, none⟩ (.slice none 0 0)).setCell ⟨g, 9, none⟩ (.bool false)).setCell ⟨g, 10, none⟩ (.bool false)).setCell ⟨g, 11, none⟩ (.int .i64 4)).setCell ⟨g, 12, none⟩ (.slice none 0 0)).setCell ⟨g, 13, none⟩ (.int .i64 4)).setCell ⟨g, 14, none⟩ (.int .i64 0)).setCell ⟨g, 15, none⟩ (.bool false)).setCell ⟨g, 16, none⟩ (.bool false)).setCell ⟨g, 17, none⟩ (.bool false)).setCell ⟨g, 18, none⟩ (.bool false)) g 81 (bgL 1 p0 p1) ∧ Sn (fun k => k = 11) own W own (((((((((((((((((W.setCell ⟨g, 2, none⟩ (.int .u32 1)).setCell ⟨g, 3, none⟩ (.int .i64 4)).setCell ⟨g, 4, none⟩ (.int .i64 6)).setCell ⟨g, 5, none⟩ (.int .i64 3)).setCell ⟨g, 6, none⟩ (.bool true)).setCell ⟨g, 7, none⟩ (.bool false)).setCell ⟨g, 8, none⟩ (.slice none 0 0)).setCell ⟨g, 9, none⟩ (.bool false)).setCell ⟨g, 10, none⟩ (.bool false)).setCell ⟨g, 11, none⟩ (.int .i64 4)).setCell ⟨g, 12, none⟩ (.slice none 0 0)).setCell ⟨g, 13, none⟩ (.int .i64 4)).setCell ⟨g, 14, none⟩ (.int .i64 0)).setCell ⟨g, 15, none⟩ (.bool false)).setCell ⟨g, 16, none⟩ (.bool false)).setCell ⟨g, 17, none⟩ (.bool false)).setCell ⟨g, 18, none⟩ (.bool false)) := by
  refine ⟨⟨(((((((((((((((((h.1.setCell 2 _).setCell 3 _).setCell 4 _).setCell 5 _).setCell 6 _).setCell 7 _).setCell 8 _).setCell 9 _).setCell 10 _).setCell 11 _).setCell 12 _).setCell 13 _).setCell 14 _).setCell 15 _).setCell 16 _).setCell 17 _).setCell 18 _), h.2⟩, ⟨fun _ _ => rfl, ?_⟩⟩
  have k : Keeps (fun k => k = g) W (((((((((((((((((W.setCell ⟨g, 2, none⟩ (.int .u32 1)).setCell ⟨g, 3, none⟩ (.int .i64 4)).setCell ⟨g, 4, none⟩ (.int .i64 6)).setCell ⟨g, 5, none⟩ (.int .i64 3)).setCell ⟨g, 6, none⟩ (.bool true)).setCell ⟨g, 7, none⟩ (.bool false)).setCell ⟨g, 8, none⟩ (.slice none 0 0)).setCell ⟨g, 9, none⟩ (.bool false)).setCell ⟨g, 10, none⟩ (.bool false)).setCell ⟨g, 11, none⟩ (.int .i64 4)).setCell ⟨g, 12, none⟩ (.slice none 0 0)).setCell ⟨g, 13, none⟩ (.int .i64 4)).setCell ⟨g, 14, none⟩ (.int .i64 0)).setCell ⟨g, 15, none⟩ (.bool false)).setCell ⟨g, 16, none⟩ (.bool false)).setCell ⟨g, 17, none⟩ (.bool false)).setCell ⟨g, 18, none⟩ (.bool false)) := ((((((((((((((((((Keeps.refl (fun k => k = g) W).setCell _ _ (fun _ => rfl)).setCell _ _ (fun _ => rfl)).setCell _ _ (fun _ => rfl)).setCell _ _ (fun _ => rfl)).setCell _ _ (fun _ => rfl)).setCell _ _ (fun _ => rfl)).setCell _ _ (fun _ => rfl)).setCell _ _ (fun _ => rfl)).setCell _ _ (fun _ => rfl)).setCell _ _ (fun _ => rfl)).setCell _ _ (fun _ => rfl)).setCell _ _ (fun _ => rfl)).setCell _ _ (fun _ => rfl)).setCell _ _ (fun _ => rfl)).setCell _ _ (fun _ => rfl)).setCell _ _ (fun _ => rfl)).setCell _ _ (fun _ => rfl))
  exact k.mono (fun x e _ => by subst e; exact h.2)
theorem bg_store0_facts (h : CellsO own 11 W g 81 (pairL (ptr p0) (.pointer none) refZ refZ false false)) : W.cell? ⟨g, 2, none⟩ = some (.int .u32 0) ∧ W.cell? ⟨g, 3, none⟩ = some (.int .i64 0) ∧ W.cell? ⟨g, 4, none⟩ = some (.int .i64 0) ∧ W.cell? ⟨g, 5, none⟩ = some (.int .i64 0) ∧ W.cell? ⟨g, 6, none⟩ = some (.bool false) ∧ W.cell? ⟨g, 7, none⟩ = some (.bool false) ∧ W.cell? ⟨g, 8, none⟩ = some (.slice none 0 0) ∧ W.cell? ⟨g, 9, none⟩ = some (.bool false) ∧ W.cell? ⟨g, 10, none⟩ = some (.bool false) ∧ W.cell? ⟨g, 11, none⟩ = some (.int .i64 0) ∧ W.cell? ⟨g, 12, none⟩ = some (.slice none 0 0) ∧ W.cell? ⟨g, 13, none⟩ = some (.int .i64 0) ∧ W.cell? ⟨g, 14, none⟩ = some (.int .i64 0) ∧ W.cell? ⟨g, 15, none⟩ = some (.bool false) ∧ W.cell? ⟨g, 16, none⟩ = some (.bool false) ∧ W.cell? ⟨g, 17, none⟩ = some (.bool false) ∧ W.cell? ⟨g, 18, none⟩ = some (.bool false) ∧ W.frozen? ⟨g, 2, none⟩ = false ∧ W.frozen? ⟨g, 3, none⟩ = false ∧ W.frozen? ⟨g, 4, none⟩ = false ∧ W.frozen? ⟨g, 5, none⟩ = false ∧ W.frozen? ⟨g, 6, none⟩ = false ∧ W.frozen? ⟨g, 7, none⟩ = false ∧ W.frozen? ⟨g, 8, none⟩ = false ∧ W.frozen? ⟨g, 9, none⟩ = false ∧ W.frozen? ⟨g, 10, none⟩ = false ∧ W.frozen? ⟨g, 11, none⟩ = false ∧ W.frozen? ⟨g, 12, none⟩ = false ∧ W.frozen? ⟨g, 13, none⟩ = false ∧ W.frozen? ⟨g, 14, none⟩ = false ∧ W.frozen? ⟨g, 15, none⟩ = false ∧ W.frozen? ⟨g, 16, none⟩ = false ∧ W.frozen? ⟨g, 17, none⟩ = false ∧ W.frozen? ⟨g, 18, none⟩ = false := by
  have c := h.1.cell
  have f := h.1.frozen
  exact ⟨c 2, c 3, c 4, c 5, c 6, c 7, c 8, c 9, c 10, c 11, c 12, c 13, c 14, c 15, c 16, c 17, c 18, f 2, f 3, f 4, f 5, f 6, f 7, f 8, f 9, f 10, f 11, f 12, f 13, f 14, f 15, f 16, f 17, f 18⟩
set_option maxHeartbeats 2000000 in
theorem bg_store1 (h : CellsO own 11 W g 81 (pairL (ptr p0) (ptr p1) (refL sd0 nilS nilS) refZ false false)) : CellsO own 11 (((((((((((((((((W.setCell ⟨g, 19, none⟩ (.int .u32 2)).setCell ⟨g, 20, none⟩ (.int .i64 4)).setCell ⟨g, 21, none⟩ (.int .i64 6)).setCell ⟨g, 22, none⟩ (.int .i64 3)).setCell ⟨g, 23, none⟩ (.bool false)).setCell ⟨g, 24, none⟩ (.bool false)).setCell ⟨g, 25, none⟩ (.slice none 0 0)).setCell ⟨g, 26, none⟩ (.bool false)).setCell ⟨g, 27, none⟩ (.bool false)).setCell ⟨g, 28, none⟩ (.int .i64 4)).setCell ⟨g, 29, none⟩ (.slice none 0 0)).setCell ⟨g, 30, none⟩ (.int .i64 4)).setCell ⟨g, 31, none⟩ (.int .i64 0)).setCell ⟨g, 32, none⟩ (.bool false)).setCell ⟨g, 33, none⟩ (.bool false)).setCell ⟨g, 34, none⟩ (.bool false)).setCell ⟨g, 35, none⟩ (.bool false)) g 81 (bgL 2 p0 p1) ∧ Sn (fun k => k = 11) own W own (((((((((((((((((W.setCell ⟨g, 19, none⟩ (.int .u32 2)).setCell ⟨g, 20, none⟩ (.int .i64 4)).setCell ⟨g, 21, none⟩ (.int .i64 6)).setCell ⟨g, 22, none⟩ (.int .i64 3)).setCell ⟨g, 23, none⟩ (.bool false)).setCell ⟨g, 24, none⟩ (.bool false)).setCell ⟨g, 25, none⟩ (.slice none 0 0)).setCell ⟨g, 26, none⟩ (.bool false)).setCell ⟨g, 27, none⟩ (.bool false)).setCell ⟨g, 28, none⟩ (.int .i64 4)).setCell ⟨g, 29, none⟩ (.slice none 0 0)).setCell ⟨g, 30, none⟩ (.int .i64 4)).setCell ⟨g, 31, none⟩ (.int .i64 0)).setCell ⟨g, 32, none⟩ (.bool false)).setCell ⟨g, 33, none⟩ (.bool false)).setCell ⟨g, 34, none⟩ (.bool false)).setCell ⟨g, 35, none⟩ (.bool false)) := by
  refine ⟨⟨(((((((((((((((((h.1.setCell 19 _).setCell 20 _).setCell 21 _).setCell 22 _).setCell 23 _).setCell 24 _).setCell 25 _).setCell 26 _).setCell 27 _).setCell 28 _).setCell 29 _).setCell 30 _).setCell 31 _).setCell 32 _).setCell 33 _).setCell 34 _).setCell 35 _), h.2⟩, ⟨fun _ _ => rfl, ?_⟩⟩
  have k : Keeps (fun k => k = g) W (((((((((((((((((W.setCell ⟨g, 19, none⟩ (.int .u32 2)).setCell ⟨g, 20, none⟩ (.int .i64 4)).setCell ⟨g, 21, none⟩ (.int .i64 6)).setCell ⟨g, 22, none⟩ (.int .i64 3)).setCell ⟨g, 23, none⟩ (.bool false)).setCell ⟨g, 24, none⟩ (.bool false)).setCell ⟨g, 25, none⟩ (.slice none 0 0)).setCell ⟨g, 26, none⟩ (.bool false)).setCell ⟨g, 27, none⟩ (.bool false)).setCell ⟨g, 28, none⟩ (.int .i64 4)).setCell ⟨g, 29, none⟩ (.slice none 0 0)).setCell ⟨g, 30, none⟩ (.int .i64 4)).setCell ⟨g, 31, none⟩ (.int .i64 0)).setCell ⟨g, 32, none⟩ (.bool false)).setCell ⟨g, 33, none⟩ (.bool false)).setCell ⟨g, 34, none⟩ (.bool false)).setCell ⟨g, 35, none⟩ (.bool false)) := ((((((((((((((((((Keeps.refl (fun k => k = g) W).setCell _ _ (fun _ => rfl)).setCell _ _ (fun _ => rfl)).setCell _ _ (fun _ => rfl)).setCell _ _ (fun _ => rfl)).setCell _ _ (fun _ => rfl)).setCell _ _ (fun _ => rfl)).setCell _ _ (fun _ => rfl)).setCell _ _ (fun _ => rfl)).setCell _ _ (fun _ => rfl)).setCell _ _ (fun _ => rfl)).setCell _ _ (fun _ => rfl)).setCell _ _ (fun _ => rfl)).setCell _ _ (fun _ => rfl)).setCell _ _ (fun _ => rfl)).setCell _ _ (fun _ => rfl)).setCell _ _ (fun _ => rfl)).setCell _ _ (fun _ => rfl))
  exact k.mono (fun x e _ => by subst e; exact h.2)
theorem bg_store1_facts (h : CellsO own 11 W g 81 (pairL (ptr p0) (ptr p1) (refL sd0 nilS nilS) refZ false false)) : W.cell? ⟨g, 19, none⟩ = some (.int .u32 0) ∧ W.cell? ⟨g, 20, none⟩ = some (.int .i64 0) ∧ W.cell? ⟨g, 21, none⟩ = some (.int .i64 0) ∧ W.cell? ⟨g, 22, none⟩ = some (.int .i64 0) ∧ W.cell? ⟨g, 23, none⟩ = some (.bool false) ∧ W.cell? ⟨g, 24, none⟩ = some (.bool false) ∧ W.cell? ⟨g, 25, none⟩ = some (.slice none 0 0) ∧ W.cell? ⟨g, 26, none⟩ = some (.bool false) ∧ W.cell? ⟨g, 27, none⟩ = some (.bool false) ∧ W.cell? ⟨g, 28, none⟩ = some (.int .i64 0) ∧ W.cell? ⟨g, 29, none⟩ = some (.slice none 0 0) ∧ W.cell? ⟨g, 30, none⟩ = some (.int .i64 0) ∧ W.cell? ⟨g, 31, none⟩ = some (.int .i64 0) ∧ W.cell? ⟨g, 32, none⟩ = some (.bool false) ∧ W.cell? ⟨g, 33, none⟩ = some (.bool false) ∧ W.cell? ⟨g, 34, none⟩ = some (.bool false) ∧ W.cell? ⟨g, 35, none⟩ = some (.bool false) ∧ W.frozen? ⟨g, 19, none⟩ = false ∧ W.frozen? ⟨g, 20, none⟩ = false ∧ W.frozen? ⟨g, 21, none⟩ = false ∧ W.frozen? ⟨g, 22, none⟩ = false ∧ W.frozen? ⟨g, 23, none⟩ = false ∧ W.frozen? ⟨g, 24, none⟩ = false ∧ W.frozen? ⟨g, 25, none⟩ = false ∧ W.frozen? ⟨g, 26, none⟩ = false ∧ W.frozen? ⟨g, 27, none⟩ = false ∧ W.frozen? ⟨g, 28, none⟩ = false ∧ W.frozen? ⟨g, 29, none⟩ = false ∧ W.frozen? ⟨g, 30, none⟩ = false ∧ W.frozen? ⟨g, 31, none⟩ = false ∧ W.frozen? ⟨g, 32, none⟩ = false ∧ W.frozen? ⟨g, 33, none⟩ = false ∧ W.frozen? ⟨g, 34, none⟩ = false ∧ W.frozen? ⟨g, 35, none⟩ = false := by
  have c := h.1.cell
  have f := h.1.frozen
  exact ⟨c 19, c 20, c 21, c 22, c 23, c 24, c 25, c 26, c 27, c 28, c 29, c 30, c 31, c 32, c 33, c 34, c 35, f 19, f 20, f 21, f 22, f 23, f 24, f 25, f 26, f 27, f 28, f 29, f 30, f 31, f 32, f 33, f 34, f 35⟩
theorem bg_done0 (M : Aside (Bm A w0 g (pairL (ptr p0) (.pointer none) refZ refZ false false) own W)) (T : Aside (StmI own 1 W p0 sd0)) (K : Aside (Keeps Nowhere W W')) : Aside (Bg A w0 g 1 p0 p1 own (((((((((((((((((W'.setCell ⟨g, 2, none⟩ (.int .u32 1)).setCell ⟨g, 3, none⟩ (.int .i64 4)).setCell ⟨g, 4, none⟩ (.int .i64 6)).setCell ⟨g, 5, none⟩ (.int .i64 3)).setCell ⟨g, 6, none⟩ (.bool true)).setCell ⟨g, 7, none⟩ (.bool false)).setCell ⟨g, 8, none⟩ (.slice none 0 0)).setCell ⟨g, 9, none⟩ (.bool false)).setCell ⟨g, 10, none⟩ (.bool false)).setCell ⟨g, 11, none⟩ (.int .i64 4)).setCell ⟨g, 12, none⟩ (.slice none 0 0)).setCell ⟨g, 13, none⟩ (.int .i64 4)).setCell ⟨g, 14, none⟩ (.int .i64 0)).setCell ⟨g, 15, none⟩ (.bool false)).setCell ⟨g, 16, none⟩ (.bool false)).setCell ⟨g, 17, none⟩ (.bool false)).setCell ⟨g, 18, none⟩ (.bool false))) := by
  obtain ⟨b, s⟩ := bg_store0 (p1 := p1) (M.it.box.quiet K.it)
  exact ⟨(M.it.gs.quiet K.it).sn s (by omega), b, fun _ => (T.it.quiet K.it).sn s (fun k _ _ e => by omega), fun e => absurd e (by omega)⟩
theorem bg_done1 (M : Aside (Bm A w0 g (pairL (ptr p0) (ptr p1) (refL sd0 nilS nilS) refZ false false) own W)) (T : Aside (StmI own 6 W p1 sd1)) (T0 : Aside (StmI own 1 W p0 sd0)) (K : Aside (Keeps Nowhere W W')) : Aside (Bg A w0 g 2 p0 p1 own (((((((((((((((((W'.setCell ⟨g, 19, none⟩ (.int .u32 2)).setCell ⟨g, 20, none⟩ (.int .i64 4)).setCell ⟨g, 21, none⟩ (.int .i64 6)).setCell ⟨g, 22, none⟩ (.int .i64 3)).setCell ⟨g, 23, none⟩ (.bool false)).setCell ⟨g, 24, none⟩ (.bool false)).setCell ⟨g, 25, none⟩ (.slice none 0 0)).setCell ⟨g, 26, none⟩ (.bool false)).setCell ⟨g, 27, none⟩ (.bool false)).setCell ⟨g, 28, none⟩ (.int .i64 4)).setCell ⟨g, 29, none⟩ (.slice none 0 0)).setCell ⟨g, 30, none⟩ (.int .i64 4)).setCell ⟨g, 31, none⟩ (.int .i64 0)).setCell ⟨g, 32, none⟩ (.bool false)).setCell ⟨g, 33, none⟩ (.bool false)).setCell ⟨g, 34, none⟩ (.bool false)).setCell ⟨g, 35, none⟩ (.bool false))) := by
  obtain ⟨b, s⟩ := bg_store1 (M.it.box.quiet K.it)
  exact ⟨(M.it.gs.quiet K.it).sn s (by omega), b, fun _ => (T0.it.quiet K.it).sn s (fun k _ _ e => by omega), fun _ => (T.it.quiet K.it).sn s (fun k _ _ e => by omega)⟩
set_option maxHeartbeats 4000000 in
set_option maxRecDepth 100000 in
theorem begin10 (h9 : St9 A w) : Calls Tryd.prog 23 #[] w fun e w' => ∃ g p0 p1 own, e = .returned (.tuple #[ptr g, .bool true]) ∧ Aside (Bg A w g 2 p0 p1 own w') := by
  have SM := Aside.mk (fun w => small10 w)
  obtain ⟨w1, hw1⟩ : ∃ w1, w1 = w.alloc (.cells (bgL 0 0 0).toArray 81) := ⟨_, rfl⟩
  have B1 : Aside (Bg A w w.heap.size 0 0 0 (give (fun _ => 0) w.heap.size 11) w1) := by
    have k : Keeps Nowhere w w1 := by rw [hw1]; exact (Keeps.refl _ _).alloc _
    exact ⟨(Gs.start h9).sn (I := fun _ => False) (Sn.quiet k 11) (fun x => x), ⟨by rw [hw1]; exact Cells.new w _ _, give_new (Nat.le_refl _)⟩, fun x => by omega, fun x => by omega⟩
  generalize give (fun _ => 0) w.heap.size 11 = own1 at B1
  clear h9
  simp only [bgL, pairL, refZ, List.cons_append, List.nil_append] at hw1
  go_enter Tryd.func23, Tryd.ntmps23
  go_upto_region 2 with fail
  rw [← hw1]
  clear hw1
  obtain ⟨g, hg⟩ : ∃ g, Aside (g = w.heap.size) := ⟨_, ⟨rfl⟩⟩
  rw [← hg.it] at B1 ⊢
  go_upto_region 3 with fail
  go_loopw [3] (fun a wr => ∃ (k p0 p1 : Nat) (own : Nat → Nat), a = .int .i64 k ∧ k ≤ 2 ∧ Aside (Bg A w g k p0 p1 own wr)) (fun a _ => 2 - (intOf a).toNat)
  case atStart => exact ⟨0, 0, 0, own1, rfl, by omega, B1⟩
  case round =>
    obtain ⟨k, p0, p1, own, rfl, hk, B2⟩ := hrel
    clear B1
    have hk3 : k = 2 ∨ k = 0 ∨ k = 1 := by omega
    rcases hk3 with rfl | rfl | rfl
    · go_wp2
      go_ret2
      exact ⟨g, p0, p1, own, rfl, B2⟩
    · go_upto_region 5 with fail
      go_upto_region 8 with (first | (go_at_call 28; refine (SM.it _).mono ?_; rintro e w2 ⟨rfl, K2⟩; have B3 := Bg.quiet B2 K2.it) | (go_at_call 9; refine (newS_ok (i := 1) (own := own) small 1 true (by decide) (by decide) small_good B3.it.gs.st).mono ?_; rintro e w3 ⟨pN, own3, rfl, N3⟩) | fail)
      have B4 := Aside.mk (B3.it.sn N3.it.2.2)
      have cA : w3.cell? ⟨g, 0, none⟩ = some (.pointer none) := B4.it.box.1.cell 0
      have fA := B4.it.box.1.frozen 0
      have sA := Sn.eleven B4.it.box 0 (ptr pN)
      have M4 : Aside (Bm A w g (pairL (ptr pN) (.pointer none) refZ refZ false false) own3 (w3.setCell ⟨g, 0, none⟩ (ptr pN))) := ⟨B4.it.gs.sn sA (by omega), ⟨B4.it.box.1.setCell 0 (ptr pN), B4.it.box.2⟩⟩
      have T4 : Aside (StmI own3 1 (w3.setCell ⟨g, 0, none⟩ (ptr pN)) pN sd0) := ⟨N3.it.1.sn sA (fun k a b e => by omega)⟩
      go_upto_region 9 with fail
      generalize w3.setCell ⟨g, 0, none⟩ (ptr pN) = w4 at M4 T4 ⊢
      clear cA fA sA B4 B3 B2 N3 K2
      have M4d : Aside (Bm A w g (pairL (ptr pN) (.pointer none) refZ refZ false false) own3 w4.drew) := ⟨M4.it.gs.quiet (Keeps.refl _ _).drew, M4.it.box.quiet (Keeps.refl _ _).drew⟩
      have SM4 : Aside (∀ W, Aside (Keeps Nowhere w4 W) → Calls Tryd.prog 28 #[] W fun e w' => e = .returned small.val ∧ Aside (Keeps Nowhere w4 w')) := ⟨fun W k => (small10 W).mono (fun _ _ x => ⟨x.1, ⟨k.it.trans x.2.it⟩⟩)⟩
      have RN4 : Aside (∀ W, Aside (Keeps Nowhere w4 W) → Calls Tryd.prog 52 #[.int .u32 1, small.val, .bool true] W fun e w' => e = .returned (.tuple #[.agg #[.int .u32 1, .int .i64 4, .int .i64 6, .int .i64 3, .bool true, .bool false, .slice none 0 0, .bool false, .bool false, .int .i64 4, .slice none 0 0, .int .i64 4, .int .i64 0, .bool false, .bool false, .bool false, .bool false], .int .i64 0]) ∧ Aside (Keeps Nowhere w4 w')) := ⟨fun W k => (refNew_ok 1 4 6 3 0 0 0 0 0 true (by decide) (by decide) (by decide) (by decide) (by decide) (by decide) (by decide) W).mono (fun _ _ x => ⟨x.1, ⟨k.it.trans x.2.it⟩⟩)⟩
      have K4 : Aside (Keeps Nowhere w4 w4.drew) := ⟨(Keeps.refl _ _).drew⟩
      have BX : Aside (∀ W, Aside (Keeps Nowhere w4 W) → CellsO own3 11 W g 81 (pairL (ptr pN) (.pointer none) refZ refZ false false)) := ⟨fun W k => M4.it.box.quiet k.it⟩
      go_region_held3 (fun _ => True) (trivial) (first
        | (go_at_call 28; with_reducible refine (SM4.it _ (by with_reducible assumption)).mono ?_; rintro e w5 ⟨rfl, K5⟩)
        | (go_at_call 52; refine (RN4.it _ (by with_reducible assumption)).mono ?_; rintro e w6 ⟨rfl, K6⟩; obtain ⟨z0, z1, z2, z3, z4, z5, z6, z7, z8, z9, z10, z11, z12, z13, z14, z15, z16, y0, y1, y2, y3, y4, y5, y6, y7, y8, y9, y10, y11, y12, y13, y14, y15, y16⟩ := bg_store0_facts (BX.it w6 K6))
        | fail)
      all_goals
        have E6 := bg_done0 (p1 := 0) M4 T4 K6
        go_wp2
        go_roundw
        case rel => exact ⟨1, pN, 0, own3, by go_num, by omega, E6⟩
        case measure => first | decide | simp [intOf]
    · go_upto_region 5 with fail
      go_upto_region 8 with (first | (go_at_call 28; refine (SM.it _).mono ?_; rintro e w2 ⟨rfl, K2⟩; have B3 := Bg.quiet B2 K2.it) | (go_at_call 9; refine (newS_ok (i := 6) (own := own) small 2 false (by decide) (by decide) small_good B3.it.gs.st).mono ?_; rintro e w3 ⟨pN, own3, rfl, N3⟩) | fail)
      have B4 := Aside.mk (B3.it.sn N3.it.2.2)
      have cA : w3.cell? ⟨g, 1, none⟩ = some (.pointer none) := B4.it.box.1.cell 1
      have fA := B4.it.box.1.frozen 1
      have sA := Sn.eleven B4.it.box 1 (ptr pN)
      have M4 : Aside (Bm A w g (pairL (ptr p0) (ptr pN) (refL sd0 nilS nilS) refZ false false) own3 (w3.setCell ⟨g, 1, none⟩ (ptr pN))) := ⟨B4.it.gs.sn sA (by omega), ⟨B4.it.box.1.setCell 1 (ptr pN), B4.it.box.2⟩⟩
      have T4 : Aside (StmI own3 6 (w3.setCell ⟨g, 1, none⟩ (ptr pN)) pN sd1) := ⟨N3.it.1.sn sA (fun k a b e => by omega)⟩
      have T0 : Aside (StmI own3 1 (w3.setCell ⟨g, 1, none⟩ (ptr pN)) p0 sd0) := ⟨(B4.it.s0 (by omega)).sn sA (fun k a b e => by omega)⟩
      go_upto_region 9 with fail
      generalize w3.setCell ⟨g, 1, none⟩ (ptr pN) = w4 at M4 T4 T0 ⊢
      clear cA fA sA B4 B3 B2 N3 K2
      have M4d : Aside (Bm A w g (pairL (ptr p0) (ptr pN) (refL sd0 nilS nilS) refZ false false) own3 w4.drew) := ⟨M4.it.gs.quiet (Keeps.refl _ _).drew, M4.it.box.quiet (Keeps.refl _ _).drew⟩
      have SM4 : Aside (∀ W, Aside (Keeps Nowhere w4 W) → Calls Tryd.prog 28 #[] W fun e w' => e = .returned small.val ∧ Aside (Keeps Nowhere w4 w')) := ⟨fun W k => (small10 W).mono (fun _ _ x => ⟨x.1, ⟨k.it.trans x.2.it⟩⟩)⟩
      have RN4 : Aside (∀ W, Aside (Keeps Nowhere w4 W) → Calls Tryd.prog 52 #[.int .u32 2, small.val, .bool false] W fun e w' => e = .returned (.tuple #[.agg #[.int .u32 2, .int .i64 4, .int .i64 6, .int .i64 3, .bool false, .bool false, .slice none 0 0, .bool false, .bool false, .int .i64 4, .slice none 0 0, .int .i64 4, .int .i64 0, .bool false, .bool false, .bool false, .bool false], .int .i64 0]) ∧ Aside (Keeps Nowhere w4 w')) := ⟨fun W k => (refNew_ok 2 4 6 3 0 0 0 0 0 false (by decide) (by decide) (by decide) (by decide) (by decide) (by decide) (by decide) W).mono (fun _ _ x => ⟨x.1, ⟨k.it.trans x.2.it⟩⟩)⟩
      have K4 : Aside (Keeps Nowhere w4 w4.drew) := ⟨(Keeps.refl _ _).drew⟩
      have BX : Aside (∀ W, Aside (Keeps Nowhere w4 W) → CellsO own3 11 W g 81 (pairL (ptr p0) (ptr pN) (refL sd0 nilS nilS) refZ false false)) := ⟨fun W k => M4.it.box.quiet k.it⟩
      go_region_held3 (fun _ => True) (trivial) (first
        | (go_at_call 28; with_reducible refine (SM4.it _ (by with_reducible assumption)).mono ?_; rintro e w5 ⟨rfl, K5⟩)
        | (go_at_call 52; refine (RN4.it _ (by with_reducible assumption)).mono ?_; rintro e w6 ⟨rfl, K6⟩; obtain ⟨z0, z1, z2, z3, z4, z5, z6, z7, z8, z9, z10, z11, z12, z13, z14, z15, z16, y0, y1, y2, y3, y4, y5, y6, y7, y8, y9, y10, y11, y12, y13, y14, y15, y16⟩ := bg_store1_facts (BX.it w6 K6))
        | fail)
      all_goals
        have E6 := bg_done1 M4 T4 T0 K6
        go_wp2
        go_roundw
        case rel => exact ⟨2, p0, pN, own3, by go_num, by omega, E6⟩
        case measure => first | decide | simp [intOf]
end
end Go.Proofs.YteghehhifebhcaaDoor
