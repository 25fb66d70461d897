/-
  culvertlaw03.step: Len and Weight
-/
import Derived.Test.YtnljgklmaljfjaaDoorFStep0
namespace Go.Proofs.YtnljgklmaljfjaaDoor
open Go.RowKit Fint

set_option maxHeartbeats 4000000 in
theorem step_len {own : Nat → Nat} {i j p rt rw : Nat} {q : Things} {a : Option Addr} {c : Nat} (w : World) (h : Both own i j w p rt rw (.slice a q.length c) q) (hi : i ≠ 0) (hj : j ≠ 0)
    (V Wt : Int) (wa : Option Addr) (wl wc : Nat) :
    Calls Tryd.prog 21 #[.pointer (some ⟨p, 0, none⟩), .agg #[.int .i64 rt, .int .i64 rw, .slice a q.length c], .agg #[.int .i64 4, .int .i64 V, .int .i64 Wt, .slice wa wl wc]] w fun e w' => Stepped own i j w p rt rw q e w' := by
  obtain ⟨N, hN⟩ : ∃ N, N = q.length := ⟨_, rfl⟩
  have BG : Aside _ := ⟨began w a c 4 V Wt (.slice wa wl wc) N hN h⟩
  rw [← hN]
  obtain ⟨W0, hW0⟩ : ∃ W0, W0 = ((w.alloc (.cells #[.int .i64 rt, .int .i64 rw, .slice a N c] 35)).alloc (.cells #[.int .i64 4, .int .i64 V, .int .i64 Wt, .slice wa wl wc] 41)).alloc (.cells #[.int .i64 0, .int .i64 0, .slice none 0 0] 35) := ⟨_, rfl⟩
  rw [← hW0] at BG
  have d0 : W0.cell? ⟨w.heap.size, 0, none⟩ = some (.int .i64 rt) := by rw [BG.it.box.1.cell]; rfl
  have d1 : W0.cell? ⟨w.heap.size, 1, none⟩ = some (.int .i64 rw) := by rw [BG.it.box.1.cell]; rfl
  have d2 : W0.cell? ⟨w.heap.size, 2, none⟩ = some (.slice a N c) := by rw [BG.it.box.1.cell]; rfl
  have o0 : W0.cell? ⟨w.heap.size + 1, 0, none⟩ = some (.int .i64 4) := by rw [BG.it.op.1.cell]; rfl
  have HN : Aside _ := ⟨hN⟩
  clear h hN
  go_enter Tryd.func21, Tryd.ntmps21
  go_upto_region 1 with fail
  rw [← hW0]
  clear hW0
  have hne : w.heap.size ≠ w.heap.size + 1 + 1 := by omega
  have R0 : Aside (CellsO (give own w.heap.size 0) 0 W0.drew (w.heap.size + 1 + 1) 35 [.int .i64 0, .int .i64 0, .slice none 0 0]) := ⟨BG.it.res⟩
  have B0 : Aside (CellsO (give own w.heap.size 0) 0 W0.drew w.heap.size 35 [.int .i64 rt, .int .i64 rw, .slice a N c]) := ⟨BG.it.box⟩
  have P0 : Aside _ := ⟨BG.it.pair.still (Keeps.refl Nowhere W0).drew⟩
  have S0 : Aside _ := ⟨BG.it.since.still (Keeps.refl Nowhere W0).drew⟩
  have LN := hide (len_o P0.it.fifo)
  rw [← HN.it] at LN
  have hsum : sumW q ≤ 9223372036854775807 := Nat.le_trans P0.it.fifo.weight P0.it.fifo.rw63
  have HSU : Aside _ := ⟨hsum⟩
  obtain ⟨t, ht⟩ : ∃ t, t = sumW q := ⟨_, rfl⟩
  have HT : Aside _ := ⟨ht⟩
  clear ht hsum
  go_wp2_with fail
  go_region_held_law (fun w' => w'.cell? ⟨w.heap.size, 0, none⟩ = some (.int .i64 rt) ∧ w'.cell? ⟨w.heap.size, 1, none⟩ = some (.int .i64 rw) ∧ w'.cell? ⟨w.heap.size, 2, none⟩ = some (.slice a N c)) (first | exact ⟨d0, d1, d2⟩ | exact ⟨l0, l1, l2⟩ | exact ⟨m0, m1, m2⟩ | exact ⟨u0, u1, u2⟩) (first
    | (go_at_call 30; refine SU.it.mono ?_; rintro e w3 ⟨rfl, k3⟩; have B3 : Aside _ := ⟨B1.it.quiet k3.it⟩; have R3 : Aside _ := ⟨R1.it.quiet k3.it⟩; have P3 : Aside _ := ⟨P1.it.still k3.it⟩; have S3 : Aside _ := ⟨S1.it.still k3.it⟩; have m0 : w3.cell? ⟨w.heap.size, 0, none⟩ = some (.int .i64 rt) := (by rw [B3.it.1.cell]; rfl); have m1 : w3.cell? ⟨w.heap.size, 1, none⟩ = some (.int .i64 rw) := (by rw [B3.it.1.cell]; rfl); have m2 : w3.cell? ⟨w.heap.size, 2, none⟩ = some (.slice a N c) := (by rw [B3.it.1.cell]; rfl); have x0 : w3.cell? ⟨w.heap.size + 1 + 1, 0, none⟩ = some (.int .i64 0) := (by rw [R3.it.1.cell]; rfl); have x1 : w3.cell? ⟨w.heap.size + 1 + 1, 1, none⟩ = some (.int .i64 0) := (by rw [R3.it.1.cell]; rfl); have x2 : w3.cell? ⟨w.heap.size + 1 + 1, 2, none⟩ = some (.slice none 0 0) := (by rw [R3.it.1.cell]; rfl); have z0 := R3.it.1.frozen 0; have z1 := R3.it.1.frozen 1; have z2 := R3.it.1.frozen 2; have U := ((B3.it.1.setOther ⟨w.heap.size + 1 + 1, 0, none⟩ (.int .i64 rt) hne).setOther ⟨w.heap.size + 1 + 1, 1, none⟩ (.int .i64 rw) hne).setOther ⟨w.heap.size + 1 + 1, 2, none⟩ (.slice a N c) hne; have u0 := U.cell 0; have u1 := U.cell 1; have u2 := U.cell 2; clear U)
    | (go_at_call 27; refine WG.it.mono ?_; rintro e w2 ⟨rfl, rfl⟩)
    | (go_at_call 26; refine LN.out.mono ?_; rintro e w1 ⟨rfl, k1⟩; have B1 : Aside _ := ⟨B0.it.quiet k1⟩; have R1 : Aside _ := ⟨R0.it.quiet k1⟩; have P1 : Aside _ := ⟨P0.it.still k1⟩; have S1 : Aside _ := ⟨S0.it.still k1⟩; have WG : Aside _ := ⟨weight_o P1.it.fifo⟩; have SU : Aside _ := ⟨refSum_ok w1 rt rw (.slice a N c) q P1.it.reads HSU.it⟩; rw [← HT.it] at WG SU; have l0 : w1.cell? ⟨w.heap.size, 0, none⟩ = some (.int .i64 rt) := (by rw [B1.it.1.cell]; rfl); have l1 : w1.cell? ⟨w.heap.size, 1, none⟩ = some (.int .i64 rw) := (by rw [B1.it.1.cell]; rfl); have l2 : w1.cell? ⟨w.heap.size, 2, none⟩ = some (.slice a N c) := (by rw [B1.it.1.cell]; rfl); clear k1))
  go_wp2
  obtain ⟨W, hW⟩ : ∃ W, W = ((w3.setCell ⟨w.heap.size + 1 + 1, 0, none⟩ (.int .i64 rt)).setCell ⟨w.heap.size + 1 + 1, 1, none⟩ (.int .i64 rw)).setCell ⟨w.heap.size + 1 + 1, 2, none⟩ (.slice a N c) := ⟨_, rfl⟩
  rw [← hW]
  obtain ⟨⟨r0, r1, r2⟩, e1, e2⟩ := ended hi hj (by omega) P3.it S3.it R3.it W hW
  refine bodyPost_ret (v := .tuple #[.agg #[.int .i64 rt, .int .i64 rw, .slice a N c], .bool true]) (by simp [results, Tryd.results21, go_sem, r0, r1, r2]) rfl ?_
  exact ⟨_, _, rfl, e1, e2⟩
end Go.Proofs.YtnljgklmaljfjaaDoor
