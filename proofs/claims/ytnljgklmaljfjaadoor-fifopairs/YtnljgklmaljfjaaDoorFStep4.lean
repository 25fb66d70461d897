/-
  culvertlaw03.step: Len and Weight, All, Remove of none
-/
import Derived.Test.YtnljgklmaljfjaaDoorFStep0
namespace Go.Proofs.YtnljgklmaljfjaaDoor
open Go.RowKit Fint

set_option maxHeartbeats 4000000 in
theorem step_none {own : Nat → Nat} {i j p rt rw : Nat} {q : Things} {a : Option Addr} {c : Nat} (w : World) (h : Both own i j w p rt rw (.slice a q.length c) q) (hi : i ≠ 0) (hj : j ≠ 0)
    (V Wt : Int) (wa : Option Addr) (wl wc : Nat) :
    Calls Tryd.prog 21 #[.pointer (some ⟨p, 0, none⟩), .agg #[.int .i64 rt, .int .i64 rw, .slice a q.length c], .agg #[.int .i64 7, .int .i64 V, .int .i64 Wt, .slice wa wl wc]] w fun e w' => Stepped own i j w p rt rw q e w' := by
  obtain ⟨N, hN⟩ : ∃ N, N = q.length := ⟨_, rfl⟩
  have BG : Aside _ := ⟨began w a c 7 V Wt (.slice wa wl wc) N hN h⟩
  rw [← hN]
  obtain ⟨W0, hW0⟩ : ∃ W0, W0 = ((w.alloc (.cells #[.int .i64 rt, .int .i64 rw, .slice a N c] 35)).alloc (.cells #[.int .i64 7, .int .i64 V, .int .i64 Wt, .slice wa wl wc] 41)).alloc (.cells #[.int .i64 0, .int .i64 0, .slice none 0 0] 35) := ⟨_, rfl⟩
  rw [← hW0] at BG
  have d0 : W0.cell? ⟨w.heap.size, 0, none⟩ = some (.int .i64 rt) := by rw [BG.it.box.1.cell]; rfl
  have d1 : W0.cell? ⟨w.heap.size, 1, none⟩ = some (.int .i64 rw) := by rw [BG.it.box.1.cell]; rfl
  have d2 : W0.cell? ⟨w.heap.size, 2, none⟩ = some (.slice a N c) := by rw [BG.it.box.1.cell]; rfl
  have o0 : W0.cell? ⟨w.heap.size + 1, 0, none⟩ = some (.int .i64 7) := by rw [BG.it.op.1.cell]; rfl
  have HN : Aside _ := ⟨hN⟩
  clear h hN
  go_enter Tryd.func21, Tryd.ntmps21
  go_upto_region 1 with fail
  rw [← hW0]
  clear hW0
  have hne : w.heap.size ≠ w.heap.size + 1 + 1 := by omega
  have R0 : Aside (CellsO (give own w.heap.size 0) 0 W0.drew (w.heap.size + 1 + 1) 35 [.int .i64 0, .int .i64 0, .slice none 0 0]) := ⟨BG.it.res⟩
  have B0 : Aside (CellsO (give own w.heap.size 0) 0 W0.drew w.heap.size 35 [.int .i64 rt, .int .i64 rw, .slice a N c]) := ⟨BG.it.box⟩
  have P0 : Aside _ := ⟨BG.it.pair.still (Keeps.refl Nowhere W0).drew⟩
  have S0 : Aside _ := ⟨BG.it.since.still (Keeps.refl Nowhere W0).drew⟩
  go_wp2_with fail
  go_region_held_law (fun w' => w'.cell? ⟨w.heap.size, 0, none⟩ = some (.int .i64 rt) ∧ w'.cell? ⟨w.heap.size, 1, none⟩ = some (.int .i64 rw) ∧ w'.cell? ⟨w.heap.size, 2, none⟩ = some (.slice a N c)) (first | exact ⟨d0, d1, d2⟩ | exact ⟨m0, m1, m2⟩ | exact ⟨u0, u1, u2⟩) ((go_at_call 40; refine (remove_none _ _).mono ?_; rintro e w1 ⟨rfl, hw1⟩; have B1 : Aside (CellsO (give own w.heap.size 0) 0 w1 w.heap.size 35 [.int .i64 rt, .int .i64 rw, .slice a N c]) := ⟨hw1 ▸ B0.it⟩; have R1 : Aside (CellsO (give own w.heap.size 0) 0 w1 (w.heap.size + 1 + 1) 35 [.int .i64 0, .int .i64 0, .slice none 0 0]) := ⟨hw1 ▸ R0.it⟩; have P1 : Aside (PairAt (give own w.heap.size 0) i j w1 p rt rw q (.slice a N c) q) := ⟨hw1 ▸ P0.it⟩; have S1 : Aside (Since own i w (give own w.heap.size 0) w1) := ⟨hw1 ▸ S0.it⟩; clear hw1; have m0 : w1.cell? ⟨w.heap.size, 0, none⟩ = some (.int .i64 rt) := (by rw [B1.it.1.cell]; rfl); have m1 : w1.cell? ⟨w.heap.size, 1, none⟩ = some (.int .i64 rw) := (by rw [B1.it.1.cell]; rfl); have m2 : w1.cell? ⟨w.heap.size, 2, none⟩ = some (.slice a N c) := (by rw [B1.it.1.cell]; rfl); have x0 : w1.cell? ⟨w.heap.size + 1 + 1, 0, none⟩ = some (.int .i64 0) := (by rw [R1.it.1.cell]; rfl); have x1 : w1.cell? ⟨w.heap.size + 1 + 1, 1, none⟩ = some (.int .i64 0) := (by rw [R1.it.1.cell]; rfl); have x2 : w1.cell? ⟨w.heap.size + 1 + 1, 2, none⟩ = some (.slice none 0 0) := (by rw [R1.it.1.cell]; rfl); have z0 := R1.it.1.frozen 0; have z1 := R1.it.1.frozen 1; have z2 := R1.it.1.frozen 2; have U := ((B1.it.1.setOther ⟨w.heap.size + 1 + 1, 0, none⟩ (.int .i64 rt) hne).setOther ⟨w.heap.size + 1 + 1, 1, none⟩ (.int .i64 rw) hne).setOther ⟨w.heap.size + 1 + 1, 2, none⟩ (.slice a N c) hne; have u0 := U.cell 0; have u1 := U.cell 1; have u2 := U.cell 2; clear U))
  go_wp2
  obtain ⟨W, hW⟩ : ∃ W, W = ((w1.setCell ⟨w.heap.size + 1 + 1, 0, none⟩ (.int .i64 rt)).setCell ⟨w.heap.size + 1 + 1, 1, none⟩ (.int .i64 rw)).setCell ⟨w.heap.size + 1 + 1, 2, none⟩ (.slice a N c) := ⟨_, rfl⟩
  rw [← hW]
  obtain ⟨⟨r0, r1, r2⟩, e1, e2⟩ := ended hi hj (by omega) P1.it S1.it R1.it W hW
  refine bodyPost_ret (v := .tuple #[.agg #[.int .i64 rt, .int .i64 rw, .slice a N c], .bool true]) (by simp [results, Tryd.results21, go_sem, r0, r1, r2]) rfl ?_
  exact ⟨_, _, rfl, e1, e2⟩
set_option maxHeartbeats 4000000 in
theorem step_all {own : Nat → Nat} {i j p rt rw : Nat} {q : Things} {a : Option Addr} {c : Nat} (w : World) (h : Both own i j w p rt rw (.slice a q.length c) q) (hi : i ≠ 0) (hj : j ≠ 0)
    (hb : q.length ≤ 4398046511103) (V Wt : Int) (wa : Option Addr) (wl wc : Nat) :
    Calls Tryd.prog 21 #[.pointer (some ⟨p, 0, none⟩), .agg #[.int .i64 rt, .int .i64 rw, .slice a q.length c], .agg #[.int .i64 6, .int .i64 V, .int .i64 Wt, .slice wa wl wc]] w fun e w' => Stepped own i j w p rt rw q e w' := by
  obtain ⟨N, hN⟩ : ∃ N, N = q.length := ⟨_, rfl⟩
  have BG : Aside _ := ⟨began w a c 6 V Wt (.slice wa wl wc) N hN h⟩
  rw [← hN]
  obtain ⟨W0, hW0⟩ : ∃ W0, W0 = ((w.alloc (.cells #[.int .i64 rt, .int .i64 rw, .slice a N c] 35)).alloc (.cells #[.int .i64 6, .int .i64 V, .int .i64 Wt, .slice wa wl wc] 41)).alloc (.cells #[.int .i64 0, .int .i64 0, .slice none 0 0] 35) := ⟨_, rfl⟩
  rw [← hW0] at BG
  have HB : Aside _ := ⟨hb⟩
  have d0 : W0.cell? ⟨w.heap.size, 0, none⟩ = some (.int .i64 rt) := by rw [BG.it.box.1.cell]; rfl
  have d1 : W0.cell? ⟨w.heap.size, 1, none⟩ = some (.int .i64 rw) := by rw [BG.it.box.1.cell]; rfl
  have d2 : W0.cell? ⟨w.heap.size, 2, none⟩ = some (.slice a N c) := by rw [BG.it.box.1.cell]; rfl
  have o0 : W0.cell? ⟨w.heap.size + 1, 0, none⟩ = some (.int .i64 6) := by rw [BG.it.op.1.cell]; rfl
  have HN : Aside _ := ⟨hN⟩
  clear h hb hN
  go_enter Tryd.func21, Tryd.ntmps21
  go_upto_region 1 with fail
  rw [← hW0]
  clear hW0
  have hne : w.heap.size ≠ w.heap.size + 1 + 1 := by omega
  have R0 : Aside (CellsO (give own w.heap.size 0) 0 W0.drew (w.heap.size + 1 + 1) 35 [.int .i64 0, .int .i64 0, .slice none 0 0]) := ⟨BG.it.res⟩
  have B0 : Aside (CellsO (give own w.heap.size 0) 0 W0.drew w.heap.size 35 [.int .i64 rt, .int .i64 rw, .slice a N c]) := ⟨BG.it.box⟩
  have P0 : Aside _ := ⟨BG.it.pair.still (Keeps.refl Nowhere W0).drew⟩
  have S0 : Aside _ := ⟨BG.it.since.still (Keeps.refl Nowhere W0).drew⟩
  have WK := hide (walked_ok W0.drew P0.it.fifo HB.it rt rw (.slice a N c) P0.it.reads)
  go_wp2_with fail
  go_region_held_law (fun w' => w'.cell? ⟨w.heap.size, 0, none⟩ = some (.int .i64 rt) ∧ w'.cell? ⟨w.heap.size, 1, none⟩ = some (.int .i64 rw) ∧ w'.cell? ⟨w.heap.size, 2, none⟩ = some (.slice a N c)) (first | exact ⟨d0, d1, d2⟩ | exact ⟨m0, m1, m2⟩ | exact ⟨u0, u1, u2⟩) ((go_at_call 23; refine WK.out.mono ?_; rintro e w1 ⟨rfl, k1⟩; have B1 : Aside _ := ⟨B0.it.quiet k1.it⟩; have R1 : Aside _ := ⟨R0.it.quiet k1.it⟩; have P1 : Aside _ := ⟨P0.it.still k1.it⟩; have S1 : Aside _ := ⟨S0.it.still k1.it⟩; have m0 : w1.cell? ⟨w.heap.size, 0, none⟩ = some (.int .i64 rt) := (by rw [B1.it.1.cell]; rfl); have m1 : w1.cell? ⟨w.heap.size, 1, none⟩ = some (.int .i64 rw) := (by rw [B1.it.1.cell]; rfl); have m2 : w1.cell? ⟨w.heap.size, 2, none⟩ = some (.slice a N c) := (by rw [B1.it.1.cell]; rfl); have x0 : w1.cell? ⟨w.heap.size + 1 + 1, 0, none⟩ = some (.int .i64 0) := (by rw [R1.it.1.cell]; rfl); have x1 : w1.cell? ⟨w.heap.size + 1 + 1, 1, none⟩ = some (.int .i64 0) := (by rw [R1.it.1.cell]; rfl); have x2 : w1.cell? ⟨w.heap.size + 1 + 1, 2, none⟩ = some (.slice none 0 0) := (by rw [R1.it.1.cell]; rfl); have z0 := R1.it.1.frozen 0; have z1 := R1.it.1.frozen 1; have z2 := R1.it.1.frozen 2; have U := ((B1.it.1.setOther ⟨w.heap.size + 1 + 1, 0, none⟩ (.int .i64 rt) hne).setOther ⟨w.heap.size + 1 + 1, 1, none⟩ (.int .i64 rw) hne).setOther ⟨w.heap.size + 1 + 1, 2, none⟩ (.slice a N c) hne; have u0 := U.cell 0; have u1 := U.cell 1; have u2 := U.cell 2; clear U))
  go_wp2
  obtain ⟨W, hW⟩ : ∃ W, W = ((w1.setCell ⟨w.heap.size + 1 + 1, 0, none⟩ (.int .i64 rt)).setCell ⟨w.heap.size + 1 + 1, 1, none⟩ (.int .i64 rw)).setCell ⟨w.heap.size + 1 + 1, 2, none⟩ (.slice a N c) := ⟨_, rfl⟩
  rw [← hW]
  obtain ⟨⟨r0, r1, r2⟩, e1, e2⟩ := ended hi hj (by omega) P1.it S1.it R1.it W hW
  refine bodyPost_ret (v := .tuple #[.agg #[.int .i64 rt, .int .i64 rw, .slice a N c], .bool true]) (by simp [results, Tryd.results21, go_sem, r0, r1, r2]) rfl ?_
  exact ⟨_, _, rfl, e1, e2⟩
end Go.Proofs.YtnljgklmaljfjaaDoor
