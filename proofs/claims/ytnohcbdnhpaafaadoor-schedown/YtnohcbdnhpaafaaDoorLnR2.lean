/-
  culvertref11: Frame
-/
import Derived.Test.YtnohcbdnhpaafaaDoorLnR
namespace Go.Proofs.YtnohcbdnhpaafaaDoor
open Go.RowKit

variable {A : Nat → Addr} {w w' w0 : World}
abbrev hv5 (ty fl : Int) (s v : Int) : List Value := [.int .u8 0, .int .u8 ty, .int .u16 fl, .int .u32 s, .int .u32 v]
def hd5 (t : Tk) : List Value := if mayT t = 0 then hv5 (shF t.k.toNat) (shG t.k.toNat) t.s t.v else hv5 0 0 0 0
/-- a header's box, all at once -/
theorem hbox_set {q : Nat} {ty fl s v ty0 fl0 s0 v0 : Int} (h : Cells w q 43 (hv5 ty0 fl0 s0 v0)) :
    Cells (((((w.setCell ⟨q, 0, none⟩ (.int .u8 0)).setCell ⟨q, 1, none⟩ (.int .u8 ty)).setCell ⟨q, 2, none⟩ (.int .u16 fl)).setCell ⟨q, 3, none⟩ (.int .u32 s)).setCell ⟨q, 4, none⟩ (.int .u32 v)) q 43 (hv5 ty fl s v) :=
  ((((h.setCell 0 (.int .u8 0)).setCell 1 (.int .u8 ty)).setCell 2 (.int .u16 fl)).setCell 3 (.int .u32 s)).setCell 4 (.int .u32 v)
theorem hbox_keeps (w : World) (q : Nat) (a b c d e : Value) : Keeps (fun k => k = q) w (((((w.setCell ⟨q, 0, none⟩ a).setCell ⟨q, 1, none⟩ b).setCell ⟨q, 2, none⟩ c).setCell ⟨q, 3, none⟩ d).setCell ⟨q, 4, none⟩ e) :=
  (((((Keeps.refl (fun k => k = q) w).setCell ⟨q, 0, none⟩ a (fun _ => rfl)).setCell ⟨q, 1, none⟩ b (fun _ => rfl)).setCell ⟨q, 2, none⟩ c (fun _ => rfl)).setCell ⟨q, 3, none⟩ d (fun _ => rfl)).setCell ⟨q, 4, none⟩ e (fun _ => rfl)

set_option maxHeartbeats 4000000 in
theorem frameR (t : Tk) : Calls Tryd.prog 14 #[tkv t.k t.s t.v] w fun e w' => e = .returned (.tuple #[.agg (hd5 t).toArray, .int .i64 (mayT t)]) ∧ Aside (Keeps Nowhere w w') := by
  obtain ⟨W0, hW0⟩ : ∃ W0, W0 = (w.alloc (tbox t.k t.s t.v)).alloc (.cells #[.int .u8 0, .int .u8 0, .int .u16 0, .int .u32 0, .int .u32 0] 43) := ⟨_, rfl⟩
  have K0 : Aside (Keeps Nowhere w W0) := ⟨by rw [hW0]; exact ((Keeps.refl _ _).alloc _).alloc _⟩
  have C0 : Aside (Cells W0 w.heap.size 29 (tcells t)) := ⟨by rw [hW0]; exact (tbox_new w _ _ _).later (S := Nowhere) ((Keeps.refl _ _).alloc _) (fun x => x)⟩
  have D0 : Aside (Cells W0 (w.heap.size + 1) 43 (hv5 0 0 0 0)) := ⟨by
    have h := Cells.new (w.alloc (tbox t.k t.s t.v)) 43 (hv5 0 0 0 0)
    rw [World.size_alloc] at h
    rw [hW0]; exact h⟩
  have CK := Aside.mk (mayR (w := W0) t)
  obtain ⟨b0, b1, b2⟩ := TB.of C0.it
  go_enter Tryd.func14, Tryd.ntmps14
  go_upto_region 1 with fail
  rw [← hW0]
  clear hW0
  go_upto_region 2 with (first | (go_at_call 38; refine CK.it.mono ?_; rintro e w1 ⟨rfl, k1⟩) | fail)
  have K1 := Aside.mk k1
  have D1 := Aside.mk (D0.it.later k1 (fun x => x))
  have C1 := Aside.mk (C0.it.later k1 (fun x => x))
  clear k1 b0 b1 b2
  by_cases hmay : mayT t = 0
  · have HM := Aside.mk hmay
    obtain ⟨k, s, v⟩ := t
    have hr := may_range hmay
    simp only at hr
    have hr : k = 1 ∨ k = 2 ∨ k = 3 ∨ k = 4 ∨ k = 5 ∨ k = 6 ∨ k = 7 := by omega
    obtain ⟨b0, b1, b2⟩ := TB.of C1.it
    rw [hmay]
    obtain ⟨W1, hW1⟩ : ∃ W1, W1 = w1.alloc (.cells #[.int .u8 0, .int .u8 1, .int .u16 0, .int .u32 s, .int .u32 v] 43) := ⟨_, rfl⟩
    have K2 : Aside (Keeps Nowhere w1 W1) := ⟨by rw [hW1]; exact (Keeps.refl _ _).alloc _⟩
    have E1 : Aside (Cells W1 w1.heap.size 43 (hv5 1 0 s v)) := ⟨by rw [hW1]; exact Cells.new w1 _ _⟩
    have D2 := Aside.mk (D1.it.later K2.it (fun x => x))
    have hne : w.heap.size + 1 ≠ w1.heap.size := fun e => by have := D1.it.lt; omega
    obtain ⟨d0, d1, d2⟩ := TB.of (C1.it.later K2.it (fun x => x))
    have z0 : (((0 : Nat) : Int) != 0) = false := rfl
    go_upto_region 5 with fail
    all_goals (try (exfalso; omega))
    rw [← hW1]
    clear hW1 hmay b0 b1 b2
    have f1 := E1.it.frozen 1
    have f2 := E1.it.frozen 2
    have x1 : W1.cell? ⟨w1.heap.size, 1, none⟩ = some (.int .u8 1) := by rw [E1.it.cell]; rfl
    have x2 : W1.cell? ⟨w1.heap.size, 2, none⟩ = some (.int .u16 0) := by rw [E1.it.cell]; rfl
    rcases hr with rfl | rfl | rfl | rfl | rfl | rfl | rfl
    · obtain ⟨W2, hW2⟩ : ∃ W2, W2 = (W1.setCell ⟨w1.heap.size, 2, none⟩ (.int .u16 1)) := ⟨_, rfl⟩
      have E2 : Cells W2 w1.heap.size 43 (hv5 1 1 s v) := by rw [hW2]; exact (E1.it.setCell 2 (.int .u16 1))
      have KA : Keeps (fun k => k = w1.heap.size) W1 W2 := by rw [hW2]; exact ((Keeps.refl (fun k => k = w1.heap.size) W1).setCell ⟨w1.heap.size, 2, none⟩ (.int .u16 1) (fun _ => rfl))
      have HH : Aside (hd5 ⟨1, s, v⟩ = hv5 1 1 s v) := ⟨by rw [hd5, if_pos HM.it]; rfl⟩
      go_upto_region 20 with fail
      rw [← hW2]
      clear hW2
      have D3 : Cells W2 (w.heap.size + 1) 43 (hv5 0 0 0 0) := D2.it.later KA hne
      have e0 : W2.cell? ⟨w1.heap.size, 0, none⟩ = some (.int .u8 0) := by rw [E2.cell]; rfl
      have e1 : W2.cell? ⟨w1.heap.size, 1, none⟩ = some (.int .u8 1) := by rw [E2.cell]; rfl
      have e2 : W2.cell? ⟨w1.heap.size, 2, none⟩ = some (.int .u16 1) := by rw [E2.cell]; rfl
      have e3 : W2.cell? ⟨w1.heap.size, 3, none⟩ = some (.int .u32 s) := by rw [E2.cell]; rfl
      have e4 : W2.cell? ⟨w1.heap.size, 4, none⟩ = some (.int .u32 v) := by rw [E2.cell]; rfl
      have r0 : W2.cell? ⟨w.heap.size + 1, 0, none⟩ = some (.int .u8 0) := by rw [D3.cell]; rfl
      have r1 : W2.cell? ⟨w.heap.size + 1, 1, none⟩ = some (.int .u8 0) := by rw [D3.cell]; rfl
      have r2 : W2.cell? ⟨w.heap.size + 1, 2, none⟩ = some (.int .u16 0) := by rw [D3.cell]; rfl
      have r3 : W2.cell? ⟨w.heap.size + 1, 3, none⟩ = some (.int .u32 0) := by rw [D3.cell]; rfl
      have r4 : W2.cell? ⟨w.heap.size + 1, 4, none⟩ = some (.int .u32 0) := by rw [D3.cell]; rfl
      have g0 := D3.frozen 0
      have g1 := D3.frozen 1
      have g2 := D3.frozen 2
      have g3 := D3.frozen 3
      have g4 := D3.frozen 4
      obtain ⟨W4, hW4⟩ : ∃ W4, W4 = ((((W2.setCell ⟨w.heap.size + 1, 0, none⟩ (.int .u8 0)).setCell ⟨w.heap.size + 1, 1, none⟩ (.int .u8 1)).setCell ⟨w.heap.size + 1, 2, none⟩ (.int .u16 1)).setCell ⟨w.heap.size + 1, 3, none⟩ (.int .u32 s)).setCell ⟨w.heap.size + 1, 4, none⟩ (.int .u32 v) := ⟨_, rfl⟩
      have hC : Cells W4 (w.heap.size + 1) 43 (hv5 1 1 s v) := by rw [hW4]; exact hbox_set D3
      have KK : Aside (Keeps Nowhere w W4) := ⟨((K0.it.trans K1.it).trans K2.it).next (S' := fun k => k = w1.heap.size ∨ k = w.heap.size + 1) ((KA.mono (fun k e _ => .inl e)).trans (by rw [hW4]; exact (hbox_keeps W2 (w.heap.size + 1) _ _ _ _ _).mono (fun k e _ => .inr e))) (fun k hk hlt => by have := K0.it.size; have := K1.it.size; omega)⟩
      have y0 : W4.cell? ⟨w.heap.size + 1, 0, none⟩ = some (.int .u8 0) := by rw [hC.cell]; rfl
      have y1 : W4.cell? ⟨w.heap.size + 1, 1, none⟩ = some (.int .u8 1) := by rw [hC.cell]; rfl
      have y2 : W4.cell? ⟨w.heap.size + 1, 2, none⟩ = some (.int .u16 1) := by rw [hC.cell]; rfl
      have y3 : W4.cell? ⟨w.heap.size + 1, 3, none⟩ = some (.int .u32 s) := by rw [hC.cell]; rfl
      have y4 : W4.cell? ⟨w.heap.size + 1, 4, none⟩ = some (.int .u32 v) := by rw [hC.cell]; rfl
      clear hC KA E2 D3
      go_wp2
      rw [← hW4]
      refine bodyPost_ret (by simp [results, Tryd.results14, go_sem, y0, y1, y2, y3, y4]; rfl) rfl ?_
      rw [HH.it, HM.it]
      exact ⟨rfl, KK⟩
    · obtain ⟨W2, hW2⟩ : ∃ W2, W2 = (W1.setCell ⟨w1.heap.size, 2, none⟩ (.int .u16 2)) := ⟨_, rfl⟩
      have E2 : Cells W2 w1.heap.size 43 (hv5 1 2 s v) := by rw [hW2]; exact (E1.it.setCell 2 (.int .u16 2))
      have KA : Keeps (fun k => k = w1.heap.size) W1 W2 := by rw [hW2]; exact ((Keeps.refl (fun k => k = w1.heap.size) W1).setCell ⟨w1.heap.size, 2, none⟩ (.int .u16 2) (fun _ => rfl))
      have HH : Aside (hd5 ⟨2, s, v⟩ = hv5 1 2 s v) := ⟨by rw [hd5, if_pos HM.it]; rfl⟩
      go_upto_region 20 with fail
      rw [← hW2]
      clear hW2
      have D3 : Cells W2 (w.heap.size + 1) 43 (hv5 0 0 0 0) := D2.it.later KA hne
      have e0 : W2.cell? ⟨w1.heap.size, 0, none⟩ = some (.int .u8 0) := by rw [E2.cell]; rfl
      have e1 : W2.cell? ⟨w1.heap.size, 1, none⟩ = some (.int .u8 1) := by rw [E2.cell]; rfl
      have e2 : W2.cell? ⟨w1.heap.size, 2, none⟩ = some (.int .u16 2) := by rw [E2.cell]; rfl
      have e3 : W2.cell? ⟨w1.heap.size, 3, none⟩ = some (.int .u32 s) := by rw [E2.cell]; rfl
      have e4 : W2.cell? ⟨w1.heap.size, 4, none⟩ = some (.int .u32 v) := by rw [E2.cell]; rfl
      have r0 : W2.cell? ⟨w.heap.size + 1, 0, none⟩ = some (.int .u8 0) := by rw [D3.cell]; rfl
      have r1 : W2.cell? ⟨w.heap.size + 1, 1, none⟩ = some (.int .u8 0) := by rw [D3.cell]; rfl
      have r2 : W2.cell? ⟨w.heap.size + 1, 2, none⟩ = some (.int .u16 0) := by rw [D3.cell]; rfl
      have r3 : W2.cell? ⟨w.heap.size + 1, 3, none⟩ = some (.int .u32 0) := by rw [D3.cell]; rfl
      have r4 : W2.cell? ⟨w.heap.size + 1, 4, none⟩ = some (.int .u32 0) := by rw [D3.cell]; rfl
      have g0 := D3.frozen 0
      have g1 := D3.frozen 1
      have g2 := D3.frozen 2
      have g3 := D3.frozen 3
      have g4 := D3.frozen 4
      obtain ⟨W4, hW4⟩ : ∃ W4, W4 = ((((W2.setCell ⟨w.heap.size + 1, 0, none⟩ (.int .u8 0)).setCell ⟨w.heap.size + 1, 1, none⟩ (.int .u8 1)).setCell ⟨w.heap.size + 1, 2, none⟩ (.int .u16 2)).setCell ⟨w.heap.size + 1, 3, none⟩ (.int .u32 s)).setCell ⟨w.heap.size + 1, 4, none⟩ (.int .u32 v) := ⟨_, rfl⟩
      have hC : Cells W4 (w.heap.size + 1) 43 (hv5 1 2 s v) := by rw [hW4]; exact hbox_set D3
      have KK : Aside (Keeps Nowhere w W4) := ⟨((K0.it.trans K1.it).trans K2.it).next (S' := fun k => k = w1.heap.size ∨ k = w.heap.size + 1) ((KA.mono (fun k e _ => .inl e)).trans (by rw [hW4]; exact (hbox_keeps W2 (w.heap.size + 1) _ _ _ _ _).mono (fun k e _ => .inr e))) (fun k hk hlt => by have := K0.it.size; have := K1.it.size; omega)⟩
      have y0 : W4.cell? ⟨w.heap.size + 1, 0, none⟩ = some (.int .u8 0) := by rw [hC.cell]; rfl
      have y1 : W4.cell? ⟨w.heap.size + 1, 1, none⟩ = some (.int .u8 1) := by rw [hC.cell]; rfl
      have y2 : W4.cell? ⟨w.heap.size + 1, 2, none⟩ = some (.int .u16 2) := by rw [hC.cell]; rfl
      have y3 : W4.cell? ⟨w.heap.size + 1, 3, none⟩ = some (.int .u32 s) := by rw [hC.cell]; rfl
      have y4 : W4.cell? ⟨w.heap.size + 1, 4, none⟩ = some (.int .u32 v) := by rw [hC.cell]; rfl
      clear hC KA E2 D3
      go_wp2
      rw [← hW4]
      refine bodyPost_ret (by simp [results, Tryd.results14, go_sem, y0, y1, y2, y3, y4]; rfl) rfl ?_
      rw [HH.it, HM.it]
      exact ⟨rfl, KK⟩
    · obtain ⟨W2, hW2⟩ : ∃ W2, W2 = W1 := ⟨_, rfl⟩
      have E2 : Cells W2 w1.heap.size 43 (hv5 1 0 s v) := by rw [hW2]; exact E1.it
      have KA : Keeps (fun k => k = w1.heap.size) W1 W2 := by rw [hW2]; exact (Keeps.refl (fun k => k = w1.heap.size) W1)
      have HH : Aside (hd5 ⟨3, s, v⟩ = hv5 1 0 s v) := ⟨by rw [hd5, if_pos HM.it]; rfl⟩
      go_upto_region 20 with fail
      rw [← hW2]
      clear hW2
      have D3 : Cells W2 (w.heap.size + 1) 43 (hv5 0 0 0 0) := D2.it.later KA hne
      have e0 : W2.cell? ⟨w1.heap.size, 0, none⟩ = some (.int .u8 0) := by rw [E2.cell]; rfl
      have e1 : W2.cell? ⟨w1.heap.size, 1, none⟩ = some (.int .u8 1) := by rw [E2.cell]; rfl
      have e2 : W2.cell? ⟨w1.heap.size, 2, none⟩ = some (.int .u16 0) := by rw [E2.cell]; rfl
      have e3 : W2.cell? ⟨w1.heap.size, 3, none⟩ = some (.int .u32 s) := by rw [E2.cell]; rfl
      have e4 : W2.cell? ⟨w1.heap.size, 4, none⟩ = some (.int .u32 v) := by rw [E2.cell]; rfl
      have r0 : W2.cell? ⟨w.heap.size + 1, 0, none⟩ = some (.int .u8 0) := by rw [D3.cell]; rfl
      have r1 : W2.cell? ⟨w.heap.size + 1, 1, none⟩ = some (.int .u8 0) := by rw [D3.cell]; rfl
      have r2 : W2.cell? ⟨w.heap.size + 1, 2, none⟩ = some (.int .u16 0) := by rw [D3.cell]; rfl
      have r3 : W2.cell? ⟨w.heap.size + 1, 3, none⟩ = some (.int .u32 0) := by rw [D3.cell]; rfl
      have r4 : W2.cell? ⟨w.heap.size + 1, 4, none⟩ = some (.int .u32 0) := by rw [D3.cell]; rfl
      have g0 := D3.frozen 0
      have g1 := D3.frozen 1
      have g2 := D3.frozen 2
      have g3 := D3.frozen 3
      have g4 := D3.frozen 4
      obtain ⟨W4, hW4⟩ : ∃ W4, W4 = ((((W2.setCell ⟨w.heap.size + 1, 0, none⟩ (.int .u8 0)).setCell ⟨w.heap.size + 1, 1, none⟩ (.int .u8 1)).setCell ⟨w.heap.size + 1, 2, none⟩ (.int .u16 0)).setCell ⟨w.heap.size + 1, 3, none⟩ (.int .u32 s)).setCell ⟨w.heap.size + 1, 4, none⟩ (.int .u32 v) := ⟨_, rfl⟩
      have hC : Cells W4 (w.heap.size + 1) 43 (hv5 1 0 s v) := by rw [hW4]; exact hbox_set D3
      have KK : Aside (Keeps Nowhere w W4) := ⟨((K0.it.trans K1.it).trans K2.it).next (S' := fun k => k = w1.heap.size ∨ k = w.heap.size + 1) ((KA.mono (fun k e _ => .inl e)).trans (by rw [hW4]; exact (hbox_keeps W2 (w.heap.size + 1) _ _ _ _ _).mono (fun k e _ => .inr e))) (fun k hk hlt => by have := K0.it.size; have := K1.it.size; omega)⟩
      have y0 : W4.cell? ⟨w.heap.size + 1, 0, none⟩ = some (.int .u8 0) := by rw [hC.cell]; rfl
      have y1 : W4.cell? ⟨w.heap.size + 1, 1, none⟩ = some (.int .u8 1) := by rw [hC.cell]; rfl
      have y2 : W4.cell? ⟨w.heap.size + 1, 2, none⟩ = some (.int .u16 0) := by rw [hC.cell]; rfl
      have y3 : W4.cell? ⟨w.heap.size + 1, 3, none⟩ = some (.int .u32 s) := by rw [hC.cell]; rfl
      have y4 : W4.cell? ⟨w.heap.size + 1, 4, none⟩ = some (.int .u32 v) := by rw [hC.cell]; rfl
      clear hC KA E2 D3
      go_wp2
      rw [← hW4]
      refine bodyPost_ret (by simp [results, Tryd.results14, go_sem, y0, y1, y2, y3, y4]; rfl) rfl ?_
      rw [HH.it, HM.it]
      exact ⟨rfl, KK⟩
    · obtain ⟨W2, hW2⟩ : ∃ W2, W2 = (W1.setCell ⟨w1.heap.size, 2, none⟩ (.int .u16 8)) := ⟨_, rfl⟩
      have E2 : Cells W2 w1.heap.size 43 (hv5 1 8 s v) := by rw [hW2]; exact (E1.it.setCell 2 (.int .u16 8))
      have KA : Keeps (fun k => k = w1.heap.size) W1 W2 := by rw [hW2]; exact ((Keeps.refl (fun k => k = w1.heap.size) W1).setCell ⟨w1.heap.size, 2, none⟩ (.int .u16 8) (fun _ => rfl))
      have HH : Aside (hd5 ⟨4, s, v⟩ = hv5 1 8 s v) := ⟨by rw [hd5, if_pos HM.it]; rfl⟩
      go_upto_region 20 with fail
      rw [← hW2]
      clear hW2
      have D3 : Cells W2 (w.heap.size + 1) 43 (hv5 0 0 0 0) := D2.it.later KA hne
      have e0 : W2.cell? ⟨w1.heap.size, 0, none⟩ = some (.int .u8 0) := by rw [E2.cell]; rfl
      have e1 : W2.cell? ⟨w1.heap.size, 1, none⟩ = some (.int .u8 1) := by rw [E2.cell]; rfl
      have e2 : W2.cell? ⟨w1.heap.size, 2, none⟩ = some (.int .u16 8) := by rw [E2.cell]; rfl
      have e3 : W2.cell? ⟨w1.heap.size, 3, none⟩ = some (.int .u32 s) := by rw [E2.cell]; rfl
      have e4 : W2.cell? ⟨w1.heap.size, 4, none⟩ = some (.int .u32 v) := by rw [E2.cell]; rfl
      have r0 : W2.cell? ⟨w.heap.size + 1, 0, none⟩ = some (.int .u8 0) := by rw [D3.cell]; rfl
      have r1 : W2.cell? ⟨w.heap.size + 1, 1, none⟩ = some (.int .u8 0) := by rw [D3.cell]; rfl
      have r2 : W2.cell? ⟨w.heap.size + 1, 2, none⟩ = some (.int .u16 0) := by rw [D3.cell]; rfl
      have r3 : W2.cell? ⟨w.heap.size + 1, 3, none⟩ = some (.int .u32 0) := by rw [D3.cell]; rfl
      have r4 : W2.cell? ⟨w.heap.size + 1, 4, none⟩ = some (.int .u32 0) := by rw [D3.cell]; rfl
      have g0 := D3.frozen 0
      have g1 := D3.frozen 1
      have g2 := D3.frozen 2
      have g3 := D3.frozen 3
      have g4 := D3.frozen 4
      obtain ⟨W4, hW4⟩ : ∃ W4, W4 = ((((W2.setCell ⟨w.heap.size + 1, 0, none⟩ (.int .u8 0)).setCell ⟨w.heap.size + 1, 1, none⟩ (.int .u8 1)).setCell ⟨w.heap.size + 1, 2, none⟩ (.int .u16 8)).setCell ⟨w.heap.size + 1, 3, none⟩ (.int .u32 s)).setCell ⟨w.heap.size + 1, 4, none⟩ (.int .u32 v) := ⟨_, rfl⟩
      have hC : Cells W4 (w.heap.size + 1) 43 (hv5 1 8 s v) := by rw [hW4]; exact hbox_set D3
      have KK : Aside (Keeps Nowhere w W4) := ⟨((K0.it.trans K1.it).trans K2.it).next (S' := fun k => k = w1.heap.size ∨ k = w.heap.size + 1) ((KA.mono (fun k e _ => .inl e)).trans (by rw [hW4]; exact (hbox_keeps W2 (w.heap.size + 1) _ _ _ _ _).mono (fun k e _ => .inr e))) (fun k hk hlt => by have := K0.it.size; have := K1.it.size; omega)⟩
      have y0 : W4.cell? ⟨w.heap.size + 1, 0, none⟩ = some (.int .u8 0) := by rw [hC.cell]; rfl
      have y1 : W4.cell? ⟨w.heap.size + 1, 1, none⟩ = some (.int .u8 1) := by rw [hC.cell]; rfl
      have y2 : W4.cell? ⟨w.heap.size + 1, 2, none⟩ = some (.int .u16 8) := by rw [hC.cell]; rfl
      have y3 : W4.cell? ⟨w.heap.size + 1, 3, none⟩ = some (.int .u32 s) := by rw [hC.cell]; rfl
      have y4 : W4.cell? ⟨w.heap.size + 1, 4, none⟩ = some (.int .u32 v) := by rw [hC.cell]; rfl
      clear hC KA E2 D3
      go_wp2
      rw [← hW4]
      refine bodyPost_ret (by simp [results, Tryd.results14, go_sem, y0, y1, y2, y3, y4]; rfl) rfl ?_
      rw [HH.it, HM.it]
      exact ⟨rfl, KK⟩
    · obtain ⟨W2, hW2⟩ : ∃ W2, W2 = ((W1.setCell ⟨w1.heap.size, 1, none⟩ (.int .u8 2)).setCell ⟨w1.heap.size, 2, none⟩ (.int .u16 1)) := ⟨_, rfl⟩
      have E2 : Cells W2 w1.heap.size 43 (hv5 2 1 s v) := by rw [hW2]; exact ((E1.it.setCell 1 (.int .u8 2)).setCell 2 (.int .u16 1))
      have KA : Keeps (fun k => k = w1.heap.size) W1 W2 := by rw [hW2]; exact (((Keeps.refl (fun k => k = w1.heap.size) W1).setCell ⟨w1.heap.size, 1, none⟩ (.int .u8 2) (fun _ => rfl)).setCell ⟨w1.heap.size, 2, none⟩ (.int .u16 1) (fun _ => rfl))
      have HH : Aside (hd5 ⟨5, s, v⟩ = hv5 2 1 s v) := ⟨by rw [hd5, if_pos HM.it]; rfl⟩
      go_upto_region 20 with fail
      rw [← hW2]
      clear hW2
      have D3 : Cells W2 (w.heap.size + 1) 43 (hv5 0 0 0 0) := D2.it.later KA hne
      have e0 : W2.cell? ⟨w1.heap.size, 0, none⟩ = some (.int .u8 0) := by rw [E2.cell]; rfl
      have e1 : W2.cell? ⟨w1.heap.size, 1, none⟩ = some (.int .u8 2) := by rw [E2.cell]; rfl
      have e2 : W2.cell? ⟨w1.heap.size, 2, none⟩ = some (.int .u16 1) := by rw [E2.cell]; rfl
      have e3 : W2.cell? ⟨w1.heap.size, 3, none⟩ = some (.int .u32 s) := by rw [E2.cell]; rfl
      have e4 : W2.cell? ⟨w1.heap.size, 4, none⟩ = some (.int .u32 v) := by rw [E2.cell]; rfl
      have r0 : W2.cell? ⟨w.heap.size + 1, 0, none⟩ = some (.int .u8 0) := by rw [D3.cell]; rfl
      have r1 : W2.cell? ⟨w.heap.size + 1, 1, none⟩ = some (.int .u8 0) := by rw [D3.cell]; rfl
      have r2 : W2.cell? ⟨w.heap.size + 1, 2, none⟩ = some (.int .u16 0) := by rw [D3.cell]; rfl
      have r3 : W2.cell? ⟨w.heap.size + 1, 3, none⟩ = some (.int .u32 0) := by rw [D3.cell]; rfl
      have r4 : W2.cell? ⟨w.heap.size + 1, 4, none⟩ = some (.int .u32 0) := by rw [D3.cell]; rfl
      have g0 := D3.frozen 0
      have g1 := D3.frozen 1
      have g2 := D3.frozen 2
      have g3 := D3.frozen 3
      have g4 := D3.frozen 4
      obtain ⟨W4, hW4⟩ : ∃ W4, W4 = ((((W2.setCell ⟨w.heap.size + 1, 0, none⟩ (.int .u8 0)).setCell ⟨w.heap.size + 1, 1, none⟩ (.int .u8 2)).setCell ⟨w.heap.size + 1, 2, none⟩ (.int .u16 1)).setCell ⟨w.heap.size + 1, 3, none⟩ (.int .u32 s)).setCell ⟨w.heap.size + 1, 4, none⟩ (.int .u32 v) := ⟨_, rfl⟩
      have hC : Cells W4 (w.heap.size + 1) 43 (hv5 2 1 s v) := by rw [hW4]; exact hbox_set D3
      have KK : Aside (Keeps Nowhere w W4) := ⟨((K0.it.trans K1.it).trans K2.it).next (S' := fun k => k = w1.heap.size ∨ k = w.heap.size + 1) ((KA.mono (fun k e _ => .inl e)).trans (by rw [hW4]; exact (hbox_keeps W2 (w.heap.size + 1) _ _ _ _ _).mono (fun k e _ => .inr e))) (fun k hk hlt => by have := K0.it.size; have := K1.it.size; omega)⟩
      have y0 : W4.cell? ⟨w.heap.size + 1, 0, none⟩ = some (.int .u8 0) := by rw [hC.cell]; rfl
      have y1 : W4.cell? ⟨w.heap.size + 1, 1, none⟩ = some (.int .u8 2) := by rw [hC.cell]; rfl
      have y2 : W4.cell? ⟨w.heap.size + 1, 2, none⟩ = some (.int .u16 1) := by rw [hC.cell]; rfl
      have y3 : W4.cell? ⟨w.heap.size + 1, 3, none⟩ = some (.int .u32 s) := by rw [hC.cell]; rfl
      have y4 : W4.cell? ⟨w.heap.size + 1, 4, none⟩ = some (.int .u32 v) := by rw [hC.cell]; rfl
      clear hC KA E2 D3
      go_wp2
      rw [← hW4]
      refine bodyPost_ret (by simp [results, Tryd.results14, go_sem, y0, y1, y2, y3, y4]; rfl) rfl ?_
      rw [HH.it, HM.it]
      exact ⟨rfl, KK⟩
    · obtain ⟨W2, hW2⟩ : ∃ W2, W2 = ((W1.setCell ⟨w1.heap.size, 1, none⟩ (.int .u8 2)).setCell ⟨w1.heap.size, 2, none⟩ (.int .u16 2)) := ⟨_, rfl⟩
      have E2 : Cells W2 w1.heap.size 43 (hv5 2 2 s v) := by rw [hW2]; exact ((E1.it.setCell 1 (.int .u8 2)).setCell 2 (.int .u16 2))
      have KA : Keeps (fun k => k = w1.heap.size) W1 W2 := by rw [hW2]; exact (((Keeps.refl (fun k => k = w1.heap.size) W1).setCell ⟨w1.heap.size, 1, none⟩ (.int .u8 2) (fun _ => rfl)).setCell ⟨w1.heap.size, 2, none⟩ (.int .u16 2) (fun _ => rfl))
      have HH : Aside (hd5 ⟨6, s, v⟩ = hv5 2 2 s v) := ⟨by rw [hd5, if_pos HM.it]; rfl⟩
      go_upto_region 20 with fail
      rw [← hW2]
      clear hW2
      have D3 : Cells W2 (w.heap.size + 1) 43 (hv5 0 0 0 0) := D2.it.later KA hne
      have e0 : W2.cell? ⟨w1.heap.size, 0, none⟩ = some (.int .u8 0) := by rw [E2.cell]; rfl
      have e1 : W2.cell? ⟨w1.heap.size, 1, none⟩ = some (.int .u8 2) := by rw [E2.cell]; rfl
      have e2 : W2.cell? ⟨w1.heap.size, 2, none⟩ = some (.int .u16 2) := by rw [E2.cell]; rfl
      have e3 : W2.cell? ⟨w1.heap.size, 3, none⟩ = some (.int .u32 s) := by rw [E2.cell]; rfl
      have e4 : W2.cell? ⟨w1.heap.size, 4, none⟩ = some (.int .u32 v) := by rw [E2.cell]; rfl
      have r0 : W2.cell? ⟨w.heap.size + 1, 0, none⟩ = some (.int .u8 0) := by rw [D3.cell]; rfl
      have r1 : W2.cell? ⟨w.heap.size + 1, 1, none⟩ = some (.int .u8 0) := by rw [D3.cell]; rfl
      have r2 : W2.cell? ⟨w.heap.size + 1, 2, none⟩ = some (.int .u16 0) := by rw [D3.cell]; rfl
      have r3 : W2.cell? ⟨w.heap.size + 1, 3, none⟩ = some (.int .u32 0) := by rw [D3.cell]; rfl
      have r4 : W2.cell? ⟨w.heap.size + 1, 4, none⟩ = some (.int .u32 0) := by rw [D3.cell]; rfl
      have g0 := D3.frozen 0
      have g1 := D3.frozen 1
      have g2 := D3.frozen 2
      have g3 := D3.frozen 3
      have g4 := D3.frozen 4
      obtain ⟨W4, hW4⟩ : ∃ W4, W4 = ((((W2.setCell ⟨w.heap.size + 1, 0, none⟩ (.int .u8 0)).setCell ⟨w.heap.size + 1, 1, none⟩ (.int .u8 2)).setCell ⟨w.heap.size + 1, 2, none⟩ (.int .u16 2)).setCell ⟨w.heap.size + 1, 3, none⟩ (.int .u32 s)).setCell ⟨w.heap.size + 1, 4, none⟩ (.int .u32 v) := ⟨_, rfl⟩
      have hC : Cells W4 (w.heap.size + 1) 43 (hv5 2 2 s v) := by rw [hW4]; exact hbox_set D3
      have KK : Aside (Keeps Nowhere w W4) := ⟨((K0.it.trans K1.it).trans K2.it).next (S' := fun k => k = w1.heap.size ∨ k = w.heap.size + 1) ((KA.mono (fun k e _ => .inl e)).trans (by rw [hW4]; exact (hbox_keeps W2 (w.heap.size + 1) _ _ _ _ _).mono (fun k e _ => .inr e))) (fun k hk hlt => by have := K0.it.size; have := K1.it.size; omega)⟩
      have y0 : W4.cell? ⟨w.heap.size + 1, 0, none⟩ = some (.int .u8 0) := by rw [hC.cell]; rfl
      have y1 : W4.cell? ⟨w.heap.size + 1, 1, none⟩ = some (.int .u8 2) := by rw [hC.cell]; rfl
      have y2 : W4.cell? ⟨w.heap.size + 1, 2, none⟩ = some (.int .u16 2) := by rw [hC.cell]; rfl
      have y3 : W4.cell? ⟨w.heap.size + 1, 3, none⟩ = some (.int .u32 s) := by rw [hC.cell]; rfl
      have y4 : W4.cell? ⟨w.heap.size + 1, 4, none⟩ = some (.int .u32 v) := by rw [hC.cell]; rfl
      clear hC KA E2 D3
      go_wp2
      rw [← hW4]
      refine bodyPost_ret (by simp [results, Tryd.results14, go_sem, y0, y1, y2, y3, y4]; rfl) rfl ?_
      rw [HH.it, HM.it]
      exact ⟨rfl, KK⟩
    · obtain ⟨W2, hW2⟩ : ∃ W2, W2 = (W1.setCell ⟨w1.heap.size, 1, none⟩ (.int .u8 3)) := ⟨_, rfl⟩
      have E2 : Cells W2 w1.heap.size 43 (hv5 3 0 s v) := by rw [hW2]; exact (E1.it.setCell 1 (.int .u8 3))
      have KA : Keeps (fun k => k = w1.heap.size) W1 W2 := by rw [hW2]; exact ((Keeps.refl (fun k => k = w1.heap.size) W1).setCell ⟨w1.heap.size, 1, none⟩ (.int .u8 3) (fun _ => rfl))
      have HH : Aside (hd5 ⟨7, s, v⟩ = hv5 3 0 s v) := ⟨by rw [hd5, if_pos HM.it]; rfl⟩
      go_upto_region 20 with fail
      rw [← hW2]
      clear hW2
      have D3 : Cells W2 (w.heap.size + 1) 43 (hv5 0 0 0 0) := D2.it.later KA hne
      have e0 : W2.cell? ⟨w1.heap.size, 0, none⟩ = some (.int .u8 0) := by rw [E2.cell]; rfl
      have e1 : W2.cell? ⟨w1.heap.size, 1, none⟩ = some (.int .u8 3) := by rw [E2.cell]; rfl
      have e2 : W2.cell? ⟨w1.heap.size, 2, none⟩ = some (.int .u16 0) := by rw [E2.cell]; rfl
      have e3 : W2.cell? ⟨w1.heap.size, 3, none⟩ = some (.int .u32 s) := by rw [E2.cell]; rfl
      have e4 : W2.cell? ⟨w1.heap.size, 4, none⟩ = some (.int .u32 v) := by rw [E2.cell]; rfl
      have r0 : W2.cell? ⟨w.heap.size + 1, 0, none⟩ = some (.int .u8 0) := by rw [D3.cell]; rfl
      have r1 : W2.cell? ⟨w.heap.size + 1, 1, none⟩ = some (.int .u8 0) := by rw [D3.cell]; rfl
      have r2 : W2.cell? ⟨w.heap.size + 1, 2, none⟩ = some (.int .u16 0) := by rw [D3.cell]; rfl
      have r3 : W2.cell? ⟨w.heap.size + 1, 3, none⟩ = some (.int .u32 0) := by rw [D3.cell]; rfl
      have r4 : W2.cell? ⟨w.heap.size + 1, 4, none⟩ = some (.int .u32 0) := by rw [D3.cell]; rfl
      have g0 := D3.frozen 0
      have g1 := D3.frozen 1
      have g2 := D3.frozen 2
      have g3 := D3.frozen 3
      have g4 := D3.frozen 4
      obtain ⟨W4, hW4⟩ : ∃ W4, W4 = ((((W2.setCell ⟨w.heap.size + 1, 0, none⟩ (.int .u8 0)).setCell ⟨w.heap.size + 1, 1, none⟩ (.int .u8 3)).setCell ⟨w.heap.size + 1, 2, none⟩ (.int .u16 0)).setCell ⟨w.heap.size + 1, 3, none⟩ (.int .u32 s)).setCell ⟨w.heap.size + 1, 4, none⟩ (.int .u32 v) := ⟨_, rfl⟩
      have hC : Cells W4 (w.heap.size + 1) 43 (hv5 3 0 s v) := by rw [hW4]; exact hbox_set D3
      have KK : Aside (Keeps Nowhere w W4) := ⟨((K0.it.trans K1.it).trans K2.it).next (S' := fun k => k = w1.heap.size ∨ k = w.heap.size + 1) ((KA.mono (fun k e _ => .inl e)).trans (by rw [hW4]; exact (hbox_keeps W2 (w.heap.size + 1) _ _ _ _ _).mono (fun k e _ => .inr e))) (fun k hk hlt => by have := K0.it.size; have := K1.it.size; omega)⟩
      have y0 : W4.cell? ⟨w.heap.size + 1, 0, none⟩ = some (.int .u8 0) := by rw [hC.cell]; rfl
      have y1 : W4.cell? ⟨w.heap.size + 1, 1, none⟩ = some (.int .u8 3) := by rw [hC.cell]; rfl
      have y2 : W4.cell? ⟨w.heap.size + 1, 2, none⟩ = some (.int .u16 0) := by rw [hC.cell]; rfl
      have y3 : W4.cell? ⟨w.heap.size + 1, 3, none⟩ = some (.int .u32 s) := by rw [hC.cell]; rfl
      have y4 : W4.cell? ⟨w.heap.size + 1, 4, none⟩ = some (.int .u32 v) := by rw [hC.cell]; rfl
      clear hC KA E2 D3
      go_wp2
      rw [← hW4]
      refine bodyPost_ret (by simp [results, Tryd.results14, go_sem, y0, y1, y2, y3, y4]; rfl) rfl ?_
      rw [HH.it, HM.it]
      exact ⟨rfl, KK⟩
  · have HF : Aside (hd5 t = hv5 0 0 0 0) := ⟨by rw [hd5, if_neg hmay]⟩
    have zn : ((mayT t : Int) != 0) = true := by simpa using hmay
    have r0 : w1.cell? ⟨w.heap.size + 1, 0, none⟩ = some (.int .u8 0) := by rw [D1.it.cell]; rfl
    have r1 : w1.cell? ⟨w.heap.size + 1, 1, none⟩ = some (.int .u8 0) := by rw [D1.it.cell]; rfl
    have r2 : w1.cell? ⟨w.heap.size + 1, 2, none⟩ = some (.int .u16 0) := by rw [D1.it.cell]; rfl
    have r3 : w1.cell? ⟨w.heap.size + 1, 3, none⟩ = some (.int .u32 0) := by rw [D1.it.cell]; rfl
    have r4 : w1.cell? ⟨w.heap.size + 1, 4, none⟩ = some (.int .u32 0) := by rw [D1.it.cell]; rfl
    have g0 := D1.it.frozen 0
    have g1 := D1.it.frozen 1
    have g2 := D1.it.frozen 2
    have g3 := D1.it.frozen 3
    have g4 := D1.it.frozen 4
    obtain ⟨W4, hW4⟩ : ∃ W4, W4 = ((((w1.setCell ⟨w.heap.size + 1, 0, none⟩ (.int .u8 0)).setCell ⟨w.heap.size + 1, 1, none⟩ (.int .u8 0)).setCell ⟨w.heap.size + 1, 2, none⟩ (.int .u16 0)).setCell ⟨w.heap.size + 1, 3, none⟩ (.int .u32 0)).setCell ⟨w.heap.size + 1, 4, none⟩ (.int .u32 0) := ⟨_, rfl⟩
    have hC : Cells W4 (w.heap.size + 1) 43 (hv5 0 0 0 0) := by rw [hW4]; exact hbox_set D1.it
    have KK : Aside (Keeps Nowhere w W4) := ⟨(K0.it.trans K1.it).next (by rw [hW4]; exact hbox_keeps w1 (w.heap.size + 1) _ _ _ _ _) (fun k hk hlt => by omega)⟩
    have y0 : W4.cell? ⟨w.heap.size + 1, 0, none⟩ = some (.int .u8 0) := by rw [hC.cell]; rfl
    have y1 : W4.cell? ⟨w.heap.size + 1, 1, none⟩ = some (.int .u8 0) := by rw [hC.cell]; rfl
    have y2 : W4.cell? ⟨w.heap.size + 1, 2, none⟩ = some (.int .u16 0) := by rw [hC.cell]; rfl
    have y3 : W4.cell? ⟨w.heap.size + 1, 3, none⟩ = some (.int .u32 0) := by rw [hC.cell]; rfl
    have y4 : W4.cell? ⟨w.heap.size + 1, 4, none⟩ = some (.int .u32 0) := by rw [hC.cell]; rfl
    clear hmay hC
    go_wp2
    rw [← hW4]
    refine bodyPost_ret (by simp [results, Tryd.results14, go_sem, y0, y1, y2, y3, y4]; rfl) rfl ?_
    rw [HF.it]
    exact ⟨rfl, KK⟩
end Go.Proofs.YtnohcbdnhpaafaaDoor
