/-
  package lane: Next, Len
-/
import Derived.Test.YtialmmobkmdfpaaDoorLnC
import Derived.Laws.ResultCell
import Derived.Handy
namespace Go.Proofs.YtialmmobkmdfpaaDoor
open Go.RowKit

variable {A : Nat → Addr} {w w' w0 : World} {own own' : Nat → Nat} {i p fp mb m : Nat} {I : Nat → Prop} {F : Int → Nat → Option Nat} {Z : Zs}

theorem llen_nil (w : World) : Calls Tryd.prog 11 #[.pointer none] w fun e w' => e = .returned (.int .i64 0) ∧ Keeps Nowhere w w' := by
  have Q := Aside.mk (queue_nil w)
  have L := Aside.mk (Fticket.len_nil w)
  go_enter Tryd.func11, Tryd.ntmps11
  go_wp2_with (first | (go_at_call 31; refine Q.it.mono ?_; rintro e w1 ⟨rfl, rfl⟩) | (go_at_call 32; refine L.it.mono ?_; rintro e w1 ⟨rfl, rfl⟩) | fail)
  go_ret
  exact ⟨rfl, Keeps.refl _ _⟩
theorem len_at (h : LnO own i w p Z m) : Calls Tryd.prog 11 #[ptr p] w fun e w' => e = .returned (.int .i64 Z.length) ∧ Keeps Nowhere w w' := by
  obtain ⟨fp, mb, F, h⟩ := h
  have p0 : w.cell? ⟨p, 0, none⟩ = some (ptr fp) := by rw [h.box.1.cell]; rfl
  have Q := Aside.mk (queue_at w p fp p0)
  have L := Aside.mk (Fticket.len_o h.fifo)
  rw [qz_len] at L
  clear h p0
  go_enter Tryd.func11, Tryd.ntmps11
  go_wp2_with (first | (go_at_call 31; refine Q.it.mono ?_; rintro e w1 ⟨rfl, rfl⟩) | (go_at_call 32; refine L.it.mono ?_; rintro e w1 ⟨rfl, k1⟩) | fail)
  go_ret
  exact ⟨rfl, k1⟩

theorem next_nil (w : World) : Calls Tryd.prog 17 #[.pointer none] w fun e w' => e = .returned (.tuple #[tkv 0 0 0, .bool false]) ∧ Keeps Nowhere w w' := by
  obtain ⟨W0, hW0⟩ : ∃ W0, W0 = w.alloc (tbox 0 0 0) := ⟨_, rfl⟩
  have K0 : Aside (Keeps Nowhere w W0) := ⟨by rw [hW0]; exact (Keeps.refl _ _).alloc _⟩
  have C0 : Aside (Cells W0 w.heap.size 30 [.int .i64 0, .int .u32 (0 : Nat), .int .u32 (0 : Nat)]) := ⟨by rw [hW0]; exact tbox_new _ _ _ _⟩
  have Q := Aside.mk (queue_nil W0)
  have L := Aside.mk (Fticket.get_nil W0)
  go_enter Tryd.func17, Tryd.ntmps17
  go_upto_region 1 with fail
  rw [show w.alloc (.cells #[.int .i64 0, .int .u32 0, .int .u32 0] 30) = W0 from hW0.symm]
  clear hW0
  go_upto_region 2 with (first | (go_at_call 31; refine Q.it.mono ?_; rintro e w1 ⟨rfl, rfl⟩) | (go_at_call 37; refine L.it.mono ?_; rintro e w2 ⟨rfl, k2⟩) | fail)
  have C2 := Aside.mk (C0.it.later k2 (fun x => x))
  obtain ⟨b0, b1, b2⟩ := TB.of C2.it
  have f0 := C2.it.frozen 0
  have f1 := C2.it.frozen 1
  have f2 := C2.it.frozen 2
  have K2 := Aside.mk (K0.it.trans k2)
  clear k2
  have hK : Keeps Nowhere w (((w2.setCell ⟨w.heap.size, 0, none⟩ (.int .i64 0)).setCell ⟨w.heap.size, 1, none⟩ (.int .u32 0)).setCell ⟨w.heap.size, 2, none⟩ (.int .u32 0)) := ((K2.it.setCell _ _ (fun h => absurd h (Nat.lt_irrefl _))).setCell _ _ (fun h => absurd h (Nat.lt_irrefl _))).setCell _ _ (fun h => absurd h (Nat.lt_irrefl _))
  have hC := ((C2.it.setCell 0 (.int .i64 0)).setCell 1 (.int .u32 0)).setCell 2 (.int .u32 0)
  obtain ⟨W4, hW4⟩ : ∃ W4, W4 = (((w2.setCell ⟨w.heap.size, 0, none⟩ (.int .i64 0)).setCell ⟨w.heap.size, 1, none⟩ (.int .u32 0)).setCell ⟨w.heap.size, 2, none⟩ (.int .u32 0)) := ⟨_, rfl⟩
  rw [← hW4] at hK hC
  have y0 : W4.cell? ⟨w.heap.size, 0, none⟩ = some (.int .i64 0) := by rw [hC.cell]; rfl
  have y1 : W4.cell? ⟨w.heap.size, 1, none⟩ = some (.int .u32 0) := by rw [hC.cell]; rfl
  have y2 : W4.cell? ⟨w.heap.size, 2, none⟩ = some (.int .u32 0) := by rw [hC.cell]; rfl
  have HK := Aside.mk hK
  clear hC hK
  go_wp2
  rw [← hW4]
  clear hW4 b0 b1 b2 f0 f1 f2
  refine bodyPost_ret (by simp [results, Tryd.results17, go_sem, y0, y1, y2]; rfl) rfl ?_
  exact ⟨rfl, HK.it⟩
theorem next_empty (h : LnO own i w p [] m) : Calls Tryd.prog 17 #[ptr p] w fun e w' => e = .returned (.tuple #[tkv 0 0 0, .bool false]) ∧ Keeps Nowhere w w' := by
  obtain ⟨fp, mb, F, h⟩ := h
  obtain ⟨W0, hW0⟩ : ∃ W0, W0 = w.alloc (tbox 0 0 0) := ⟨_, rfl⟩
  have K0 : Aside (Keeps Nowhere w W0) := ⟨by rw [hW0]; exact (Keeps.refl _ _).alloc _⟩
  have C0 : Aside (Cells W0 w.heap.size 30 [.int .i64 0, .int .u32 (0 : Nat), .int .u32 (0 : Nat)]) := ⟨by rw [hW0]; exact tbox_new _ _ _ _⟩
  have H0 := h.quiet K0.it
  have Q := Aside.mk (queue_at W0 p fp (by rw [H0.box.1.cell]; rfl))
  have L : Aside (Calls Tryd.prog 37 #[ptr fp] W0 fun e w' => e = .returned (.tuple #[.pointer none, .int .i64 0, .bool false]) ∧ Keeps Nowhere W0 w') := ⟨by
    obtain ⟨v, f, g, h1, _⟩ := H0.fifo
    exact Fticket.get_empty h1⟩
  clear h H0
  go_enter Tryd.func17, Tryd.ntmps17
  go_upto_region 1 with fail
  rw [show w.alloc (.cells #[.int .i64 0, .int .u32 0, .int .u32 0] 30) = W0 from hW0.symm]
  clear hW0
  go_upto_region 2 with (first | (go_at_call 31; refine Q.it.mono ?_; rintro e w1 ⟨rfl, rfl⟩) | (go_at_call 37; refine L.it.mono ?_; rintro e w2 ⟨rfl, k2⟩) | fail)
  have C2 := Aside.mk (C0.it.later k2 (fun x => x))
  obtain ⟨b0, b1, b2⟩ := TB.of C2.it
  have f0 := C2.it.frozen 0
  have f1 := C2.it.frozen 1
  have f2 := C2.it.frozen 2
  have K2 := Aside.mk (K0.it.trans k2)
  clear k2
  have hK : Keeps Nowhere w (((w2.setCell ⟨w.heap.size, 0, none⟩ (.int .i64 0)).setCell ⟨w.heap.size, 1, none⟩ (.int .u32 0)).setCell ⟨w.heap.size, 2, none⟩ (.int .u32 0)) := ((K2.it.setCell _ _ (fun h => absurd h (Nat.lt_irrefl _))).setCell _ _ (fun h => absurd h (Nat.lt_irrefl _))).setCell _ _ (fun h => absurd h (Nat.lt_irrefl _))
  have hC := ((C2.it.setCell 0 (.int .i64 0)).setCell 1 (.int .u32 0)).setCell 2 (.int .u32 0)
  obtain ⟨W4, hW4⟩ : ∃ W4, W4 = (((w2.setCell ⟨w.heap.size, 0, none⟩ (.int .i64 0)).setCell ⟨w.heap.size, 1, none⟩ (.int .u32 0)).setCell ⟨w.heap.size, 2, none⟩ (.int .u32 0)) := ⟨_, rfl⟩
  rw [← hW4] at hK hC
  have y0 : W4.cell? ⟨w.heap.size, 0, none⟩ = some (.int .i64 0) := by rw [hC.cell]; rfl
  have y1 : W4.cell? ⟨w.heap.size, 1, none⟩ = some (.int .u32 0) := by rw [hC.cell]; rfl
  have y2 : W4.cell? ⟨w.heap.size, 2, none⟩ = some (.int .u32 0) := by rw [hC.cell]; rfl
  have HK := Aside.mk hK
  clear hC hK
  go_wp2
  rw [← hW4]
  clear hW4 b0 b1 b2 f0 f1 f2
  refine bodyPost_ret (by simp [results, Tryd.results17, go_sem, y0, y1, y2]; rfl) rfl ?_
  exact ⟨rfl, HK.it⟩
theorem next_at (b : Nat) (t : Tk) (h : LnO own i w p ((b, t) :: Z) m) (hm : m ≤ 8796093022208) : Calls Tryd.prog 17 #[ptr p] w fun e w' => e = .returned (.tuple #[tkv t.k t.s t.v, .bool true]) ∧ ∃ own', Aside (LnO own' i w' p Z m ∧ Sn (In4 i) own w own' w') := by
  obtain ⟨fp, mb, F, h⟩ := h
  obtain ⟨W0, hW0⟩ : ∃ W0, W0 = w.alloc (tbox 0 0 0) := ⟨_, rfl⟩
  have K0 : Aside (Keeps Nowhere w W0) := ⟨by rw [hW0]; exact (Keeps.refl _ _).alloc _⟩
  have S0 : Aside (Sn (In4 i) own w (give own w.heap.size (i + 4)) W0) := ⟨Sn.quiet K0.it _⟩
  have C0 : Aside (CellsO (give own w.heap.size (i + 4)) (i + 4) W0 w.heap.size 30 [.int .i64 0, .int .u32 (0 : Nat), .int .u32 (0 : Nat)]) := ⟨by rw [hW0]; exact tbox_new _ _ _ _, give_new (Nat.le_refl _)⟩
  have H0 := h.sn (I := fun _ => False) (Sn.quiet K0.it (i + 4)) (fun _ _ x => x)
  have Q := Aside.mk (queue_at W0 p fp (by rw [H0.box.1.cell]; rfl))
  have L := Aside.mk (Fticket.get_o (b, 0) (q := qz Z) H0.fifo hm)
  have HH := Aside.mk H0
  obtain ⟨_, hwd⟩ := h.ok.may _ List.mem_cons_self
  have HW := Aside.mk hwd
  clear h H0 hwd
  obtain ⟨own0, hown0⟩ : ∃ o, o = give own w.heap.size (i + 4) := ⟨_, rfl⟩
  rw [← hown0] at S0 C0 L HH
  clear hown0
  go_enter Tryd.func17, Tryd.ntmps17
  go_upto_region 1 with fail
  rw [show w.alloc (.cells #[.int .i64 0, .int .u32 0, .int .u32 0] 30) = W0 from hW0.symm]
  clear hW0
  go_upto_region 2 with (first | (go_at_call 31; refine Q.it.mono ?_; rintro e w1 ⟨rfl, hw1⟩; subst hw1) | (go_at_call 37; refine L.it.mono ?_; rintro e w2 ⟨rfl, f2, k2⟩) | fail)
  have s2 : Aside (Sn (fun k => k = i + 1) own0 w1 (give own0 w1.heap.size (i + 1)) w2) := ⟨Sn.by k2.it _⟩
  have bx2 := HH.it.box.sn s2.it (by omega)
  have p1 : w2.cell? ⟨p, 1, none⟩ = some (.map (some mb)) := by rw [bx2.1.cell]; rfl
  have T2 := HH.it.tks.sn s2.it (by omega)
  have M2 := HH.it.map.later s2.it.keeps (fun e => by have := HH.it.mine; omega)
  have LV := Aside.mk (leave_at p b mb m t HW.it p1 (TB.of (T2 _ List.mem_cons_self).1) M2)
  have BX := Aside.mk bx2
  have TT := Aside.mk T2
  have C2 := Aside.mk (C0.it.sn s2.it (by omega))
  clear bx2 p1 T2 M2 k2
  go_upto_region 5 with (first | (go_at_call 38; refine LV.it.mono ?_; rintro e w3 ⟨rfl, m3, k3⟩) | fail)
  have s3 : Aside (Sn (fun k => k = i + 2) (give own0 w1.heap.size (i + 1)) w2 (give own0 w1.heap.size (i + 1)) w3) := ⟨⟨fun _ _ => rfl, k3.mono (fun x e _ => by subst e; exact (s2.it.agree _ HH.it.map.lt).trans HH.it.mine)⟩⟩
  have M3 := Aside.mk m3
  have T3 := Aside.mk (TT.it.sn s3.it (by omega))
  have C3 := Aside.mk (C2.it.sn s3.it (by omega))
  obtain ⟨b0, b1, b2⟩ := TB.of (T3.it _ List.mem_cons_self).1
  have r0 : w3.cell? ⟨w.heap.size, 0, none⟩ = some (.int .i64 0) := by rw [C3.it.1.cell]; rfl
  have r1 : w3.cell? ⟨w.heap.size, 1, none⟩ = some (.int .u32 0) := by rw [C3.it.1.cell]; rfl
  have r2 : w3.cell? ⟨w.heap.size, 2, none⟩ = some (.int .u32 0) := by rw [C3.it.1.cell]; rfl
  have g0 := C3.it.1.frozen 0
  have g1 := C3.it.1.frozen 1
  have g2 := C3.it.1.frozen 2
  clear m3 k3
  simp only at b0 b1 b2
  have s4 : Sn (fun k => k = i + 4) (give own0 w1.heap.size (i + 1)) w3 (give own0 w1.heap.size (i + 1)) (((w3.setCell ⟨w.heap.size, 0, none⟩ (.int .i64 t.k)).setCell ⟨w.heap.size, 1, none⟩ (.int .u32 t.s)).setCell ⟨w.heap.size, 2, none⟩ (.int .u32 t.v)) := ⟨fun _ _ => rfl, (((Keeps.refl _ _).setCell _ _ (fun _ => C3.it.2)).setCell _ _ (fun _ => C3.it.2)).setCell _ _ (fun _ => C3.it.2)⟩
  have hC := ((C3.it.1.setCell 0 (.int .i64 t.k)).setCell 1 (.int .u32 t.s)).setCell 2 (.int .u32 t.v)
  have hK : Keeps (fun k => k = w.heap.size) w3 (((w3.setCell ⟨w.heap.size, 0, none⟩ (.int .i64 t.k)).setCell ⟨w.heap.size, 1, none⟩ (.int .u32 t.s)).setCell ⟨w.heap.size, 2, none⟩ (.int .u32 t.v)) := (((Keeps.refl (fun k => k = w.heap.size) w3).setCell ⟨w.heap.size, 0, none⟩ _ (fun _ => rfl)).setCell ⟨w.heap.size, 1, none⟩ _ (fun _ => rfl)).setCell ⟨w.heap.size, 2, none⟩ _ (fun _ => rfl)
  obtain ⟨W4, hW4⟩ : ∃ W4, W4 = (((w3.setCell ⟨w.heap.size, 0, none⟩ (.int .i64 t.k)).setCell ⟨w.heap.size, 1, none⟩ (.int .u32 t.s)).setCell ⟨w.heap.size, 2, none⟩ (.int .u32 t.v)) := ⟨_, rfl⟩
  rw [← hW4] at s4 hC hK
  have y0 : W4.cell? ⟨w.heap.size, 0, none⟩ = some (.int .i64 t.k) := by rw [hC.cell]; rfl
  have y1 : W4.cell? ⟨w.heap.size, 1, none⟩ = some (.int .u32 t.s) := by rw [hC.cell]; rfl
  have y2 : W4.cell? ⟨w.heap.size, 2, none⟩ = some (.int .u32 t.v) := by rw [hC.cell]; rfl
  have S4 := Aside.mk s4
  have HK := Aside.mk hK
  clear s4 hC hK
  go_wp2
  rw [← hW4]
  clear hW4 b0 b1 b2 r0 r1 r2 g0 g1 g2
  refine bodyPost_ret (by simp [results, Tryd.results17, go_sem, y0, y1, y2]; rfl) rfl ?_
  have s4 := S4.it
  have hmm : (give own0 w1.heap.size (i + 1)) mb = i + 2 := (s2.it.agree _ HH.it.map.lt).trans HH.it.mine
  refine ⟨rfl, _, ⟨⟨fp, mb, _, (BX.it.sn s3.it (by omega)).sn s4 (by omega), FifoM.sn (FifoM.sn f2.it s3.it (by omega)) s4 (by omega), M3.it.later s4.keeps (by rw [hmm]; omega), hmm, fun x hx => (T3.it.sn s4 (by omega)) x (List.mem_cons_of_mem _ hx), zok_tail HH.it.ok, holds_tail HH.it.holds HH.it.ok⟩, ?_⟩⟩
  refine ⟨fun k hk => ?_, ?_⟩
  · rw [s2.it.agree k (Nat.lt_of_lt_of_le hk K0.it.size)]
    exact S0.it.agree k hk
  · have e := ((S0.it.trans (s2.it.mono (fun k e => ⟨by omega, by omega⟩))).trans (s3.it.mono (fun k e => ⟨by omega, by omega⟩))).keeps
    exact e.next HK.it (fun k hk hlt => absurd hlt (by rw [hk]; exact Nat.lt_irrefl _))
end Go.Proofs.YtialmmobkmdfpaaDoor
