/-
  culvertlaw03.step: Put
-/
import Derived.Test.YtnljgklmaljfjaaDoorFStep0
namespace Go.Proofs.YtnljgklmaljfjaaDoor
open Go.RowKit Fint

theorem drew_cell' {w : World} {ad : Addr} {v : Value} (h : w.cell? ad = some v) : w.drew.cell? ad = some v := h

set_option maxHeartbeats 4000000 in
theorem step_put {A : Nat → Addr} {own : Nat → Nat} {i j p rt rw : Nat} {q : Things} {a : Option Addr} {c : Nat} (w00 w : World) (hs : Sents 129 codeVars A w00) (G : Ground w00.heap.size w00 own w) (h : Both own i j w p rt rw (.slice a q.length c) q) (hij : i ≠ j) (hi : i ≠ 0) (hj : j ≠ 0)
    (hb : q.length ≤ 4398046511103) (V Wt : Int) (wa : Option Addr) (wl wc : Nat) :
    Calls Tryd.prog 21 #[.pointer (some ⟨p, 0, none⟩), .agg #[.int .i64 rt, .int .i64 rw, .slice a q.length c], .agg #[.int .i64 1, .int .i64 V, .int .i64 Wt, .slice wa wl wc]] w fun e w' => Stepped own i j w p rt rw (putQ rt rw q V Wt) e w' := by
  obtain ⟨N, hN⟩ : ∃ N, N = q.length := ⟨_, rfl⟩
  have BG : Aside _ := ⟨began w a c 1 V Wt (.slice wa wl wc) N hN h⟩
  have hw := h.fifo.weight
  have hrw := h.fifo.rw63
  rw [← hN]
  obtain ⟨W0, hW0⟩ : ∃ W0, W0 = ((w.alloc (.cells #[.int .i64 rt, .int .i64 rw, .slice a N c] 35)).alloc (.cells #[.int .i64 1, .int .i64 V, .int .i64 Wt, .slice wa wl wc] 41)).alloc (.cells #[.int .i64 0, .int .i64 0, .slice none 0 0] 35) := ⟨_, rfl⟩
  rw [← hW0] at BG
  have RP := refPut_all W0 rt rw a c q V Wt (by have := BG.it.pair.reads; rw [hN] at this; exact this) hw hrw hb (fun k hk => (BG.it.pair.refo k (by rw [hN]; exact hk)).2)
  rw [← hN] at RP
  have RPH := hide RP
  have HS : Aside _ := ⟨hs⟩
  have HG : Aside _ := ⟨G⟩
  have HB : Aside _ := ⟨hb⟩
  have d0 : W0.cell? ⟨w.heap.size, 0, none⟩ = some (.int .i64 rt) := by rw [BG.it.box.1.cell]; rfl
  have d1 : W0.cell? ⟨w.heap.size, 1, none⟩ = some (.int .i64 rw) := by rw [BG.it.box.1.cell]; rfl
  have d2 : W0.cell? ⟨w.heap.size, 2, none⟩ = some (.slice a N c) := by rw [BG.it.box.1.cell]; rfl
  have o0 : W0.cell? ⟨w.heap.size + 1, 0, none⟩ = some (.int .i64 1) := by rw [BG.it.op.1.cell]; rfl
  have o1 : W0.cell? ⟨w.heap.size + 1, 1, none⟩ = some (.int .i64 V) := by rw [BG.it.op.1.cell]; rfl
  have o2 : W0.cell? ⟨w.heap.size + 1, 2, none⟩ = some (.int .i64 Wt) := by rw [BG.it.op.1.cell]; rfl
  have HN : Aside _ := ⟨hN⟩
  clear RP h hw hrw hs G hb hN
  go_enter Tryd.func21, Tryd.ntmps21
  go_upto_region 1 with fail
  rw [← hW0]
  clear hW0
  go_wp2_with fail
  refine RPH.out.mono ?_
  rintro e w1 ⟨g0, g1, g2, rfl, an⟩
  have P1 : Aside _ := ⟨BG.it.pair.ref an.it⟩
  have S1 : Aside _ := ⟨BG.it.since.quiet an.it.keeps j⟩
  have O1 : Aside _ := ⟨BG.it.op.still an.it.keeps j⟩
  have R1 : Aside _ := ⟨BG.it.res.still an.it.keeps j⟩
  clear d0 d1 d2 o0 o1 o2 an BG RPH
  go_upto_region 4 with fail
  obtain ⟨w2, hw2⟩ : ∃ w2, w2 = w1.alloc (.cells #[.int .i64 rt, .int .i64 rw, .slice g0 g1 g2] 35) := ⟨_, rfl⟩
  rw [← hw2]
  have K2 : Aside (Keeps Nowhere w1 w2.drew) := ⟨by rw [hw2]; exact ((Keeps.refl _ _).alloc _).drew⟩
  have N2 : Aside (CellsO (give (give (give own w.heap.size 0) W0.heap.size j) w1.heap.size 0) 0 w2.drew w1.heap.size 35 [.int .i64 rt, .int .i64 rw, .slice g0 g1 g2]) := ⟨⟨by rw [hw2]; exact (Cells.new w1 _ _).drew, give_new (Nat.le_refl _)⟩⟩
  clear hw2
  have P2 : Aside _ := ⟨P1.it.quiet K2.it 0⟩
  have S2 : Aside _ := ⟨S1.it.quiet K2.it 0⟩
  have O2 : Aside _ := ⟨O1.it.still K2.it 0⟩
  have R2 : Aside _ := ⟨R1.it.still K2.it 0⟩
  have G2 : Aside _ := ⟨Ground.since HG.it S2.it hi⟩
  obtain ⟨own2, ho2⟩ : ∃ own2, own2 = give (give (give own w.heap.size 0) W0.heap.size j) w1.heap.size 0 := ⟨_, rfl⟩
  rw [← ho2] at P2 S2 O2 R2 G2 N2
  have RL : Aside (w.heap.size + 1 + 1 < w1.heap.size) := ⟨R1.it.1.lt⟩
  clear ho2 P1 S1 O1 R1 K2
  have n0 : w2.drew.cell? ⟨w1.heap.size, 0, none⟩ = some (.int .i64 rt) := by rw [N2.it.1.cell]; rfl
  have n1 : w2.drew.cell? ⟨w1.heap.size, 1, none⟩ = some (.int .i64 rw) := by rw [N2.it.1.cell]; rfl
  have n2 : w2.drew.cell? ⟨w1.heap.size, 2, none⟩ = some (.slice g0 g1 g2) := by rw [N2.it.1.cell]; rfl
  have o1 : w2.drew.cell? ⟨w.heap.size + 1, 1, none⟩ = some (.int .i64 V) := by rw [O2.it.1.cell]; rfl
  have o2 : w2.drew.cell? ⟨w.heap.size + 1, 2, none⟩ = some (.int .i64 Wt) := by rw [O2.it.1.cell]; rfl
  have PU := hide (put_o (HS.it.later G2.it.bel) P2.it.fifo V Wt HB.it)
  obtain ⟨K, hK⟩ : ∃ K, K = putK rt rw q Wt := ⟨_, rfl⟩
  rw [← hK] at PU ⊢
  clear hK
  obtain ⟨b, hb⟩ : ∃ b, b = w1.heap.size := ⟨_, rfl⟩
  have hbne : b ≠ w.heap.size + 1 + 1 := by have := RL.it; omega
  rw [← hb] at n0 n1 n2 N2 ⊢
  clear hb
  have hone : w.heap.size + 1 ≠ w.heap.size + 1 + 1 := by omega
  go_region_held_law (fun w' => (w'.cell? ⟨b, 0, none⟩ = some (.int .i64 rt) ∧ w'.cell? ⟨b, 1, none⟩ = some (.int .i64 rw) ∧ w'.cell? ⟨b, 2, none⟩ = some (.slice g0 g1 g2)) ∧ w'.cell? ⟨w.heap.size + 1, 1, none⟩ = some (.int .i64 V) ∧ w'.cell? ⟨w.heap.size + 1, 2, none⟩ = some (.int .i64 Wt)) (first | exact ⟨⟨n0, n1, n2⟩, o1, o2⟩ | exact ⟨⟨m0, m1, m2⟩, p1, p2⟩ | exact ⟨⟨u0, u1, u2⟩, v1, v2⟩) (first
    | (go_at_call 8; refine (code_of HS3.it er3.it).mono ?_; rintro e w5 ⟨rfl, rfl⟩)
    | (go_at_call 24; refine PU.out.mono ?_; rintro e w4 ⟨er, rfl, hE, f4, k4⟩; have P4 : Aside _ := ⟨P2.it.call hij f4.it k4.it⟩; have S4 : Aside _ := ⟨S2.it.call k4.it i⟩; have R4 : Aside _ := ⟨R2.it.others k4.it hi.symm i⟩; have N4 : Aside _ := ⟨N2.it.others k4.it hi.symm i⟩; have O4 : Aside _ := ⟨O2.it.others k4.it hi.symm i⟩; have HS3 : Aside _ := ⟨HS.it.later (Ground.since HG.it S4.it hi).bel⟩; have er3 : Aside _ := ⟨hE⟩; have m0 : w4.cell? ⟨b, 0, none⟩ = some (.int .i64 rt) := (by rw [N4.it.1.cell]; rfl); have m1 : w4.cell? ⟨b, 1, none⟩ = some (.int .i64 rw) := (by rw [N4.it.1.cell]; rfl); have m2 : w4.cell? ⟨b, 2, none⟩ = some (.slice g0 g1 g2) := (by rw [N4.it.1.cell]; rfl); have p1 : w4.cell? ⟨w.heap.size + 1, 1, none⟩ = some (.int .i64 V) := (by rw [O4.it.1.cell]; rfl); have p2 : w4.cell? ⟨w.heap.size + 1, 2, none⟩ = some (.int .i64 Wt) := (by rw [O4.it.1.cell]; rfl); have x0 : w4.cell? ⟨w.heap.size + 1 + 1, 0, none⟩ = some (.int .i64 0) := (by rw [R4.it.1.cell]; rfl); have x1 : w4.cell? ⟨w.heap.size + 1 + 1, 1, none⟩ = some (.int .i64 0) := (by rw [R4.it.1.cell]; rfl); have x2 : w4.cell? ⟨w.heap.size + 1 + 1, 2, none⟩ = some (.slice none 0 0) := (by rw [R4.it.1.cell]; rfl); have z0 := R4.it.1.frozen 0; have z1 := R4.it.1.frozen 1; have z2 := R4.it.1.frozen 2; have U := ((N4.it.1.setOther ⟨w.heap.size + 1 + 1, 0, none⟩ (.int .i64 rt) hbne).setOther ⟨w.heap.size + 1 + 1, 1, none⟩ (.int .i64 rw) hbne).setOther ⟨w.heap.size + 1 + 1, 2, none⟩ (.slice g0 g1 g2) hbne; have V' := ((O4.it.1.setOther ⟨w.heap.size + 1 + 1, 0, none⟩ (.int .i64 rt) hone).setOther ⟨w.heap.size + 1 + 1, 1, none⟩ (.int .i64 rw) hone).setOther ⟨w.heap.size + 1 + 1, 2, none⟩ (.slice g0 g1 g2) hone; have u0 := U.cell 0; have u1 := U.cell 1; have u2 := U.cell 2; have v1 := V'.cell 1; have v2 := V'.cell 2; clear hE f4 k4 U V'))
  go_wp2
  obtain ⟨W, hW⟩ : ∃ W, W = ((w5.setCell ⟨w.heap.size + 1 + 1, 0, none⟩ (.int .i64 rt)).setCell ⟨w.heap.size + 1 + 1, 1, none⟩ (.int .i64 rw)).setCell ⟨w.heap.size + 1 + 1, 2, none⟩ (.slice g0 g1 g2) := ⟨_, rfl⟩
  rw [← hW]
  obtain ⟨⟨r0, r1, r2⟩, e1, e2⟩ := ended hi hj (by omega) P4.it S4.it R4.it W hW
  refine bodyPost_ret (v := .tuple #[.agg #[.int .i64 rt, .int .i64 rw, .slice g0 g1 g2], .bool true]) (by simp [results, Tryd.results21, go_sem, r0, r1, r2]) rfl ?_
  exact ⟨_, _, rfl, e1, e2⟩
end Go.Proofs.YtnljgklmaljfjaaDoor
