/-
  culvertlaw22.same; HandlesPlays
-/
import Derived.Test.YtjloedcikcamkaaDoorHnU
namespace Go.Proofs.YtjloedcikcamkaaDoor
open Go.RowKit

variable {A : Nat → Addr} {w w' W w0 : World} {own own' : Nat → Nat} {i p g : Nat} {L : Hl} {v : Value}
theorem pl_neq (c l : Int) (d : Nat) (w : World) : (binOp .neq 33 (.agg #[.int .i64 c, .int .i64 l, .int .u32 (d : Nat)]) (.agg #[.int .i64 c, .int .i64 l, .int .u32 (d : Nat)])).run Tryd.prog w = .ok (.bool false) w := by
  have hst : Tryd.prog.stoodInHeld 33 = false := by kernel_rfl
  have hfo : Tryd.prog.underlying 33 = some (.struct (Tryd.prog.fieldsOf 33)) := by kernel_rfl
  have h := run_equalIn_agg (P := Tryd.prog) (w := w) 9999 33 #[.int .i64 c, .int .i64 l, .int .u32 (d : Nat)] #[.int .i64 c, .int .i64 l, .int .u32 (d : Nat)] hfo hst
  rw [run_neq_struct, h]
  clear h hst hfo
  simp only [Program.fieldsOf, Tryd.underlying33]
  simp [Op.eqFields, go_sem]
set_option maxRecDepth 20000 in
set_option maxHeartbeats 2000000 in
theorem same22 (h : Hp own i w p g L v) : Calls Tryd.prog 11 #[ptr p, .agg #[.int .i64 g, v]] w fun e w' => e = .returned (.bool true) ∧ Aside (Keeps Nowhere w w') := by
  have HT := Aside.mk h.t
  have HO := Aside.mk h.t.ok
  have LU : L.length ≤ 2147483648 := Nat.le_trans h.t.ok.len h.t.ok.m
  have HD := Aside.mk h.d
  obtain ⟨a, c, rfl, hlc, hc⟩ := h.d
  obtain ⟨n, hn⟩ : ∃ n, L.length = n := ⟨_, rfl⟩
  have HN := Aside.mk hn
  rw [hn] at hlc LU ⊢
  obtain ⟨bx, hbx⟩ : ∃ bx, w.heap.size = bx := ⟨_, rfl⟩
  obtain ⟨W1, hW1⟩ : ∃ W1, (w.alloc (.cells #[.int .i64 g, .slice a n c] 28)) = W1 := ⟨_, rfl⟩
  have K1 : Aside (Keeps Nowhere w W1) := ⟨by rw [← hW1]; exact (Keeps.refl _ _).alloc _⟩
  have C1 : Aside (Cells W1 bx 28 [.int .i64 g, .slice a n c]) := ⟨by rw [← hW1, ← hbx]; exact (Cells.new w _ _)⟩
  have HC := Aside.mk hc
  clear hc hn h
  go_enter Tryd.func11, Tryd.ntmps11
  go_upto_region 2 with fail
  clear hW1 hbx
  go_loopw [5] (fun v wr => ∃ j : Nat, v = .int .i64 j ∧ j ≤ n ∧ Keeps Nowhere W1 wr) (fun v _ => n - natOf22 v)
  case atStart => exact ⟨0, rfl, Nat.zero_le _, Keeps.refl _ _⟩
  case round =>
    obtain ⟨j, rfl, hj, hk⟩ := hrel
    have HK := Aside.mk hk
    have HKw := Aside.mk (K1.it.trans hk)
    have d1 : wr.cell? ⟨bx, 1, none⟩ = some (.slice a n c) := by rw [(C1.it.later hk (fun x => x)).cell]; rfl
    clear hk
    rcases Nat.eq_or_lt_of_le hj with rfl | hlt
    · have LN := Aside.mk (KeW.call (w1 := wr) (fun W k => len_at (HT.it.quiet (HKw.it.trans k))))
      rw [HN.it] at LN
      have c1 := fun n => KeW.cell d1 n
      have enn : ((j : Int) == j) = true := by simp
      haveI : Nonempty (KeW wr) := ⟨⟨wr, Keeps.refl _ _⟩⟩
      go_upto_region 8 with fail
      clear d1
      refine wp_region_quietF (KeW.W (w1 := wr)) (by kernel_rfl) (by kernel_rfl) ⟨wr.drew, (Keeps.refl _ _).drew⟩ rfl ?_
      repeat (go_big_quiet_step (first | (go_at_call 17; exact LN.it _)))
      refine wpQuiet_nil ?_
      rintro _ ⟨m, rfl⟩
      have KM := Aside.mk (HKw.it.trans m.ok)
      generalize m.W = w11 at *
      go_wp2
      go_ret
      exact ⟨rfl, KM⟩
    · obtain ⟨y, hy⟩ : ∃ y, L[j]? = some y := ⟨_, List.getElem?_eq_getElem (by rw [HN.it]; exact hlt)⟩
      obtain ⟨q, rfl, _, y0, y1, y2, y3⟩ := HC.it j y hy
      have hym := List.mem_of_getElem? hy
      have hf : hfind L y.1 = some y.2 := mem_hfind HO.it.up hym
      have hof' : hof L y.2 = some y.1 := mem_hof HO.it.pl hym
      have hw := HO.it.wd y hym
      have hyb := HO.it.b y hym
      have hym2 := HO.it.m
      obtain ⟨yz, yc, yl, yd⟩ := y
      simp only at y0 y1 y2 y3 hf hof' hw hyb
      have RC : Aside (∀ W, Keeps Nowhere wr W → W.cell? ⟨bx, 1, none⟩ = some (.slice (some ⟨q, 0, none⟩) n c) ∧ W.cell? ⟨q, j * 4, none⟩ = some (.int .i64 yz) ∧ W.cell? ⟨q, j * 4 + 1, none⟩ = some (.int .i64 yc) ∧ W.cell? ⟨q, j * 4 + 1 + 1, none⟩ = some (.int .i64 yl) ∧ W.cell? ⟨q, j * 4 + 1 + 2, none⟩ = some (.int .u32 (yd : Nat))) := ⟨fun W k => by
        have hb := (HKw.it.trans k).block q (World.block_lt_of_cell? w _ y0) (fun x => x)
        exact ⟨by rw [(C1.it.later (HK.it.trans k) (fun x => x)).cell]; rfl, by rw [World.cell?_of_block (w := w) hb]; exact y0, by rw [World.cell?_of_block (w := w) hb]; exact y1, by rw [World.cell?_of_block (w := w) hb]; exact y2, by rw [World.cell?_of_block (w := w) hb]; exact y3⟩⟩
      have FN := Aside.mk (find_at (z := yz) (HT.it.quiet HKw.it) ⟨by omega, by omega⟩)
      rw [hf] at FN
      have FN' : Aside (Calls Tryd.prog 16 #[ptr p, .int .i64 yz] wr fun e w' => e = .returned (.tuple #[.agg #[.int .i64 yc, .int .i64 yl, .int .u32 (yd : Nat)], .bool true]) ∧ Aside (Keeps Nowhere wr w')) := FN
      have OF := Aside.mk (fun W (k : Keeps Nowhere wr W) => of_at (x := ⟨yc, yl, yd⟩) (HT.it.quiet (HKw.it.trans k)) hw)
      rw [hof'] at OF
      clear FN hf hof' hw hyb hym hy y0 y1 y2 y3 hym2 d1
      obtain ⟨d1, z0, z1, z2, z3⟩ := RC.it wr (Keeps.refl _ _)
      go_upto_region 5 with (go_at_call 16; refine FN'.it.mono ?_; rintro e w2 ⟨rfl, K2⟩)
      have K3 := Aside.mk (K2.it.alloc (.cells #[.int .i64 yc, .int .i64 yl, .int .u32 (yd : Nat)] 33))
      have C3 := Aside.mk (Cells.new w2 33 [.int .i64 yc, .int .i64 yl, .int .u32 (yd : Nat)])
      have e5 : w2.alloc (.cells [.int .i64 yc, .int .i64 yl, .int .u32 (yd : Nat)].toArray 33) = w2.alloc (.cells #[.int .i64 yc, .int .i64 yl, .int .u32 (yd : Nat)] 33) := rfl
      rw [e5] at C3
      generalize w2.alloc (.cells #[.int .i64 yc, .int .i64 yl, .int .u32 (yd : Nat)] 33) = w3 at K3 C3 ⊢
      generalize w2.heap.size = b3 at C3 ⊢
      clear d1 z0 z1 z2 z3 FN' e5
      obtain ⟨d1, z0, z1, z2, z3⟩ := RC.it w3 K3.it
      have OF3 := Aside.mk (OF.it w3 K3.it)
      simp only [Option.getD_some, Option.isSome_some] at OF3
      go_upto_region 6 with (go_at_call 13; refine OF3.it.mono ?_; rintro e w4 ⟨rfl, K4⟩)
      have K34 := Aside.mk (K3.it.trans K4.it)
      have C4 := Aside.mk (C3.it.later K4.it (fun x => x))
      clear d1 z0 z1 z2 z3 OF OF3 C3
      obtain ⟨d1, z0, z1, z2, z3⟩ := RC.it w4 K34.it
      have x0 : w4.cell? ⟨b3, 0, none⟩ = some (.int .i64 yc) := by rw [C4.it.cell]; rfl
      have x1 : w4.cell? ⟨b3, 1, none⟩ = some (.int .i64 yl) := by rw [C4.it.cell]; rfl
      have x2 : w4.cell? ⟨b3, 2, none⟩ = some (.int .u32 (yd : Nat)) := by rw [C4.it.cell]; rfl
      have pe : ∀ W : World, (binOp .neq 33 (.agg #[.int .i64 yc, .int .i64 yl, .int .u32 (yd : Nat)]) (.agg #[.int .i64 yc, .int .i64 yl, .int .u32 (yd : Nat)])).run Tryd.prog W = .ok (.bool false) W := fun W => pl_neq yc yl yd W
      have ez : (yz != yz) = false := by simp
      have j2 : (j : Int) < n := by omega
      go_quiet (fail)
      go_wp2_with fail
      go_roundw
      case rel => exact ⟨j + 1, by go_num, by omega, HK.it.trans (K34.it.drewN _)⟩
      case measure => simp [natOf22]; omega
end Go.Proofs.YtjloedcikcamkaaDoor
