/-
  culvertlaw03.step: Get, Head
-/
import Derived.Test.YtnljgklmaljfjaaDoorFStep0
namespace Go.Proofs.YtnljgklmaljfjaaDoor
open Go.RowKit Fint

theorem refGet_all (w : World) (rt rw : Nat) (a : Option Addr) (c : Nat) (l : Things) (hr : ReadsK 2 w (.slice a l.length c) l.length (flat l)) (hb : l.length ≤ 4398046511103) (ho : ∀ k, (Value.slice a l.length c).ownBlock = some k → k < w.heap.size) :
    Calls Tryd.prog 12 #[.agg #[.int .i64 rt, .int .i64 rw, .slice a l.length c]] w fun e w' => ∃ g0 g1 g2, e = .returned (.tuple #[.agg #[.int .i64 rt, .int .i64 rw, .slice g0 g1 g2], .agg #[.int .i64 (headV l).1, .int .i64 (headV l).2], .bool (!l.isEmpty)]) ∧
      Aside (RefAns w w' (.slice a l.length c) (.slice g0 g1 g2) l.tail) := by
  cases l with
  | nil =>
    refine (refGet_none w rt rw a c).mono ?_
    rintro e w' ⟨rfl, k⟩
    exact ⟨_, _, _, rfl, ⟨⟨hr.later k.it (fun _ _ x => x), fun k e => .inl e, k.it, fun b e => Nat.lt_of_lt_of_le (ho b e) k.it.size⟩⟩⟩
  | cons x l =>
    simp only [List.length_cons] at hb
    refine (refGet_some w rt rw a c x l hr (by omega)).mono ?_
    rintro e w' ⟨s', rfl, an⟩
    obtain ⟨_, g0, g2, e, _⟩ := an.it.reads
    subst e
    exact ⟨_, _, _, rfl, an⟩

set_option maxHeartbeats 4000000 in
theorem step_get {own : Nat → Nat} {i j p rt rw : Nat} {q : Things} {a : Option Addr} {c : Nat} (w : World) (h : Both own i j w p rt rw (.slice a q.length c) q) (hij : i ≠ j) (hi : i ≠ 0) (hj : j ≠ 0)
    (hb : q.length ≤ 4398046511103) (V Wt : Int) (wa : Option Addr) (wl wc : Nat) :
    Calls Tryd.prog 21 #[.pointer (some ⟨p, 0, none⟩), .agg #[.int .i64 rt, .int .i64 rw, .slice a q.length c], .agg #[.int .i64 2, .int .i64 V, .int .i64 Wt, .slice wa wl wc]] w fun e w' => Stepped own i j w p rt rw q.tail e w' := by
  obtain ⟨N, hN⟩ : ∃ N, N = q.length := ⟨_, rfl⟩
  have BG : Aside _ := ⟨began w a c 2 V Wt (.slice wa wl wc) N hN h⟩
  rw [← hN]
  obtain ⟨W0, hW0⟩ : ∃ W0, W0 = ((w.alloc (.cells #[.int .i64 rt, .int .i64 rw, .slice a N c] 35)).alloc (.cells #[.int .i64 2, .int .i64 V, .int .i64 Wt, .slice wa wl wc] 41)).alloc (.cells #[.int .i64 0, .int .i64 0, .slice none 0 0] 35) := ⟨_, rfl⟩
  rw [← hW0] at BG
  have RP := refGet_all W0 rt rw a c q (by have := BG.it.pair.reads; rw [hN] at this; exact this) hb (fun k hk => (BG.it.pair.refo k (by rw [hN]; exact hk)).2)
  rw [← hN] at RP
  have RPH := hide RP
  clear RP
  have HB : Aside _ := ⟨hb⟩
  have d0 : W0.cell? ⟨w.heap.size, 0, none⟩ = some (.int .i64 rt) := by rw [BG.it.box.1.cell]; rfl
  have d1 : W0.cell? ⟨w.heap.size, 1, none⟩ = some (.int .i64 rw) := by rw [BG.it.box.1.cell]; rfl
  have d2 : W0.cell? ⟨w.heap.size, 2, none⟩ = some (.slice a N c) := by rw [BG.it.box.1.cell]; rfl
  have o0 : W0.cell? ⟨w.heap.size + 1, 0, none⟩ = some (.int .i64 2) := by rw [BG.it.op.1.cell]; rfl
  have HN : Aside _ := ⟨hN⟩
  clear h hb hN
  go_enter Tryd.func21, Tryd.ntmps21
  go_upto_region 1 with fail
  rw [← hW0]
  clear hW0
  go_wp2_with fail
  refine RPH.out.mono ?_
  rintro e w1 ⟨g0, g1, g2, rfl, an⟩
  have P1 : Aside _ := ⟨BG.it.pair.ref an.it⟩
  have S1 : Aside _ := ⟨BG.it.since.quiet an.it.keeps j⟩
  have R1 : Aside _ := ⟨BG.it.res.still an.it.keeps j⟩
  have B1 : Aside _ := ⟨BG.it.box.still an.it.keeps j⟩
  clear d0 d1 d2 o0 an BG RPH
  obtain ⟨x, hx⟩ : ∃ x, x = headV q := ⟨_, rfl⟩
  obtain ⟨em, hem⟩ : ∃ em, em = !q.isEmpty := ⟨_, rfl⟩
  rw [← hx, ← hem]
  have HX : Aside _ := ⟨hx⟩
  have HEM : Aside _ := ⟨hem⟩
  clear hx hem
  go_upto_region 7 with fail
  obtain ⟨w2, hw2⟩ : ∃ w2, w2 = (w1.alloc (.cells #[.int .i64 rt, .int .i64 rw, .slice g0 g1 g2] 35)).alloc (.cells #[.int .i64 x.1, .int .i64 x.2] 46) := ⟨_, rfl⟩
  rw [← hw2]
  have K2 : Aside (Keeps Nowhere w1 w2) := ⟨by rw [hw2]; exact ((Keeps.refl _ _).alloc _).alloc _⟩
  have N2 : Aside (CellsO (give (give (give own w.heap.size 0) W0.heap.size j) w1.heap.size 0) 0 w2 w1.heap.size 35 [.int .i64 rt, .int .i64 rw, .slice g0 g1 g2]) := ⟨⟨by rw [hw2]; exact (Cells.new w1 _ _).later (S := Nowhere) ((Keeps.refl _ _).alloc _) (fun x => x), give_new (Nat.le_refl _)⟩⟩
  have T2 : Aside (CellsO (give (give (give own w.heap.size 0) W0.heap.size j) w1.heap.size 0) 0 w2 (w1.heap.size + 1) 46 [.int .i64 x.1, .int .i64 x.2]) := ⟨⟨by
    have h := Cells.new (w1.alloc (.cells #[.int .i64 rt, .int .i64 rw, .slice g0 g1 g2] 35)) 46 [.int .i64 x.1, .int .i64 x.2]
    rw [World.size_alloc] at h
    rw [hw2]; exact h, give_new (by omega)⟩⟩
  clear hw2
  have P2 : Aside _ := ⟨P1.it.quiet K2.it 0⟩
  have S2 : Aside _ := ⟨S1.it.quiet K2.it 0⟩
  have R2 : Aside _ := ⟨R1.it.still K2.it 0⟩
  have B2 : Aside _ := ⟨B1.it.still K2.it 0⟩
  obtain ⟨own2, ho2⟩ : ∃ own2, own2 = give (give (give own w.heap.size 0) W0.heap.size j) w1.heap.size 0 := ⟨_, rfl⟩
  rw [← ho2] at P2 S2 R2 N2 T2 B2
  clear ho2 P1 S1 R1 K2 B1
  have GT := hide (get_o P2.it.fifo HB.it)
  rw [← HX.it, ← HEM.it] at GT
  go_wp2_with fail
  refine GT.out.mono ?_
  rintro e w4 ⟨rfl, f4, k4⟩
  have P4 : Aside _ := ⟨P2.it.call hij f4.it k4.it⟩
  have S4 : Aside _ := ⟨S2.it.call k4.it i⟩
  have R4 : Aside _ := ⟨R2.it.others k4.it hi.symm i⟩
  have N4 : Aside _ := ⟨N2.it.others k4.it hi.symm i⟩
  have T4 : Aside _ := ⟨T2.it.others k4.it hi.symm i⟩
  have n0 : w4.cell? ⟨w1.heap.size, 0, none⟩ = some (.int .i64 rt) := by rw [N4.it.1.cell]; rfl
  have n1 : w4.cell? ⟨w1.heap.size, 1, none⟩ = some (.int .i64 rw) := by rw [N4.it.1.cell]; rfl
  have n2 : w4.cell? ⟨w1.heap.size, 2, none⟩ = some (.slice g0 g1 g2) := by rw [N4.it.1.cell]; rfl
  have t0 : w4.cell? ⟨w1.heap.size + 1, 0, none⟩ = some (.int .i64 x.1) := by rw [T4.it.1.cell]; rfl
  have t1 : w4.cell? ⟨w1.heap.size + 1, 1, none⟩ = some (.int .i64 x.2) := by rw [T4.it.1.cell]; rfl
  have x0 : w4.cell? ⟨w.heap.size + 1 + 1, 0, none⟩ = some (.int .i64 0) := by rw [R4.it.1.cell]; rfl
  have x1 : w4.cell? ⟨w.heap.size + 1 + 1, 1, none⟩ = some (.int .i64 0) := by rw [R4.it.1.cell]; rfl
  have x2 : w4.cell? ⟨w.heap.size + 1 + 1, 2, none⟩ = some (.slice none 0 0) := by rw [R4.it.1.cell]; rfl
  have z0 := R4.it.1.frozen 0
  have z1 := R4.it.1.frozen 1
  have z2 := R4.it.1.frozen 2
  cases em with
  | true =>
    go_wp2
    obtain ⟨W, hW⟩ : ∃ W, W = ((w4.setCell ⟨w.heap.size + 1 + 1, 0, none⟩ (.int .i64 rt)).setCell ⟨w.heap.size + 1 + 1, 1, none⟩ (.int .i64 rw)).setCell ⟨w.heap.size + 1 + 1, 2, none⟩ (.slice g0 g1 g2) := ⟨_, rfl⟩
    rw [← hW]
    obtain ⟨⟨r0, r1, r2⟩, e1, e2⟩ := ended hi hj (by omega) P4.it S4.it R4.it W hW
    refine bodyPost_ret (v := .tuple #[.agg #[.int .i64 rt, .int .i64 rw, .slice g0 g1 g2], .bool true]) (by simp [results, Tryd.results21, go_sem, r0, r1, r2]) rfl ?_
    exact ⟨_, _, rfl, e1, e2⟩
  | false =>
    go_wp2
    obtain ⟨W, hW⟩ : ∃ W, W = ((w4.setCell ⟨w.heap.size + 1 + 1, 0, none⟩ (.int .i64 rt)).setCell ⟨w.heap.size + 1 + 1, 1, none⟩ (.int .i64 rw)).setCell ⟨w.heap.size + 1 + 1, 2, none⟩ (.slice g0 g1 g2) := ⟨_, rfl⟩
    rw [← hW]
    obtain ⟨⟨r0, r1, r2⟩, e1, e2⟩ := ended hi hj (by omega) P4.it S4.it R4.it W hW
    refine bodyPost_ret (v := .tuple #[.agg #[.int .i64 rt, .int .i64 rw, .slice g0 g1 g2], .bool true]) (by simp [results, Tryd.results21, go_sem, r0, r1, r2]) rfl ?_
    exact ⟨_, _, rfl, e1, e2⟩
set_option maxHeartbeats 4000000 in
theorem step_head {own : Nat → Nat} {i j p rt rw : Nat} {q : Things} {a : Option Addr} {c : Nat} (w : World) (h : Both own i j w p rt rw (.slice a q.length c) q) (hi : i ≠ 0) (hj : j ≠ 0)
    (hb : q.length ≤ 4398046511103) (V Wt : Int) (wa : Option Addr) (wl wc : Nat) :
    Calls Tryd.prog 21 #[.pointer (some ⟨p, 0, none⟩), .agg #[.int .i64 rt, .int .i64 rw, .slice a q.length c], .agg #[.int .i64 3, .int .i64 V, .int .i64 Wt, .slice wa wl wc]] w fun e w' => Stepped own i j w p rt rw q e w' := by
  obtain ⟨N, hN⟩ : ∃ N, N = q.length := ⟨_, rfl⟩
  have BG : Aside _ := ⟨began w a c 3 V Wt (.slice wa wl wc) N hN h⟩
  rw [← hN]
  obtain ⟨W0, hW0⟩ : ∃ W0, W0 = ((w.alloc (.cells #[.int .i64 rt, .int .i64 rw, .slice a N c] 35)).alloc (.cells #[.int .i64 3, .int .i64 V, .int .i64 Wt, .slice wa wl wc] 41)).alloc (.cells #[.int .i64 0, .int .i64 0, .slice none 0 0] 35) := ⟨_, rfl⟩
  rw [← hW0] at BG
  have RP := refGet_all W0 rt rw a c q (by have := BG.it.pair.reads; rw [hN] at this; exact this) hb (fun k hk => (BG.it.pair.refo k (by rw [hN]; exact hk)).2)
  rw [← hN] at RP
  have RPH := hide RP
  clear RP
  have HB : Aside _ := ⟨hb⟩
  have d0 : W0.cell? ⟨w.heap.size, 0, none⟩ = some (.int .i64 rt) := by rw [BG.it.box.1.cell]; rfl
  have d1 : W0.cell? ⟨w.heap.size, 1, none⟩ = some (.int .i64 rw) := by rw [BG.it.box.1.cell]; rfl
  have d2 : W0.cell? ⟨w.heap.size, 2, none⟩ = some (.slice a N c) := by rw [BG.it.box.1.cell]; rfl
  have o0 : W0.cell? ⟨w.heap.size + 1, 0, none⟩ = some (.int .i64 3) := by rw [BG.it.op.1.cell]; rfl
  have HN : Aside _ := ⟨hN⟩
  clear h hb hN
  go_enter Tryd.func21, Tryd.ntmps21
  go_upto_region 1 with fail
  rw [← hW0]
  clear hW0
  go_wp2_with fail
  refine RPH.out.mono ?_
  rintro e w1 ⟨g0, g1, g2, rfl, an⟩
  have P1 : Aside _ := ⟨BG.it.pair.quiet an.it.keeps j⟩
  have S1 : Aside _ := ⟨BG.it.since.quiet an.it.keeps j⟩
  have R1 : Aside _ := ⟨BG.it.res.still an.it.keeps j⟩
  have B1 : Aside _ := ⟨BG.it.box.still an.it.keeps j⟩
  clear d0 d1 d2 o0 an BG RPH
  obtain ⟨x, hx⟩ : ∃ x, x = headV q := ⟨_, rfl⟩
  obtain ⟨em, hem⟩ : ∃ em, em = !q.isEmpty := ⟨_, rfl⟩
  rw [← hx, ← hem]
  have HX : Aside _ := ⟨hx⟩
  have HEM : Aside _ := ⟨hem⟩
  clear hx hem
  go_upto_region 11 with fail
  obtain ⟨w2, hw2⟩ : ∃ w2, w2 = (w1.alloc (.cells #[.int .i64 rt, .int .i64 rw, .slice g0 g1 g2] 35)).alloc (.cells #[.int .i64 x.1, .int .i64 x.2] 46) := ⟨_, rfl⟩
  rw [← hw2]
  have K2 : Aside (Keeps Nowhere w1 w2) := ⟨by rw [hw2]; exact ((Keeps.refl _ _).alloc _).alloc _⟩
  have N2 : Aside (CellsO (give (give (give own w.heap.size 0) W0.heap.size j) w1.heap.size 0) 0 w2 w1.heap.size 35 [.int .i64 rt, .int .i64 rw, .slice g0 g1 g2]) := ⟨⟨by rw [hw2]; exact (Cells.new w1 _ _).later (S := Nowhere) ((Keeps.refl _ _).alloc _) (fun x => x), give_new (Nat.le_refl _)⟩⟩
  have T2 : Aside (CellsO (give (give (give own w.heap.size 0) W0.heap.size j) w1.heap.size 0) 0 w2 (w1.heap.size + 1) 46 [.int .i64 x.1, .int .i64 x.2]) := ⟨⟨by
    have h := Cells.new (w1.alloc (.cells #[.int .i64 rt, .int .i64 rw, .slice g0 g1 g2] 35)) 46 [.int .i64 x.1, .int .i64 x.2]
    rw [World.size_alloc] at h
    rw [hw2]; exact h, give_new (by omega)⟩⟩
  clear hw2
  have P2 : Aside _ := ⟨P1.it.quiet K2.it 0⟩
  have S2 : Aside _ := ⟨S1.it.quiet K2.it 0⟩
  have R2 : Aside _ := ⟨R1.it.still K2.it 0⟩
  have B2 : Aside _ := ⟨B1.it.still K2.it 0⟩
  obtain ⟨own2, ho2⟩ : ∃ own2, own2 = give (give (give own w.heap.size 0) W0.heap.size j) w1.heap.size 0 := ⟨_, rfl⟩
  rw [← ho2] at P2 S2 R2 N2 T2 B2
  clear ho2 P1 S1 R1 K2 B1
  have GT := hide (head_o P2.it.fifo)
  rw [← HX.it, ← HEM.it] at GT
  go_wp2_with fail
  refine GT.out.mono ?_
  rintro e w4 ⟨rfl, k4⟩
  have P4 : Aside _ := ⟨P2.it.still k4.it⟩
  have S4 : Aside _ := ⟨S2.it.still k4.it⟩
  have R4 : Aside _ := ⟨R2.it.quiet k4.it⟩
  have N4 : Aside _ := ⟨B2.it.quiet k4.it⟩
  have T4 : Aside _ := ⟨T2.it.quiet k4.it⟩
  have n0 : w4.cell? ⟨w.heap.size, 0, none⟩ = some (.int .i64 rt) := by rw [N4.it.1.cell]; rfl
  have n1 : w4.cell? ⟨w.heap.size, 1, none⟩ = some (.int .i64 rw) := by rw [N4.it.1.cell]; rfl
  have n2 : w4.cell? ⟨w.heap.size, 2, none⟩ = some (.slice a N c) := by rw [N4.it.1.cell]; rfl
  have t0 : w4.cell? ⟨w1.heap.size + 1, 0, none⟩ = some (.int .i64 x.1) := by rw [T4.it.1.cell]; rfl
  have t1 : w4.cell? ⟨w1.heap.size + 1, 1, none⟩ = some (.int .i64 x.2) := by rw [T4.it.1.cell]; rfl
  have x0 : w4.cell? ⟨w.heap.size + 1 + 1, 0, none⟩ = some (.int .i64 0) := by rw [R4.it.1.cell]; rfl
  have x1 : w4.cell? ⟨w.heap.size + 1 + 1, 1, none⟩ = some (.int .i64 0) := by rw [R4.it.1.cell]; rfl
  have x2 : w4.cell? ⟨w.heap.size + 1 + 1, 2, none⟩ = some (.slice none 0 0) := by rw [R4.it.1.cell]; rfl
  have z0 := R4.it.1.frozen 0
  have z1 := R4.it.1.frozen 1
  have z2 := R4.it.1.frozen 2
  cases em with
  | true =>
    go_wp2
    obtain ⟨W, hW⟩ : ∃ W, W = ((w4.setCell ⟨w.heap.size + 1 + 1, 0, none⟩ (.int .i64 rt)).setCell ⟨w.heap.size + 1 + 1, 1, none⟩ (.int .i64 rw)).setCell ⟨w.heap.size + 1 + 1, 2, none⟩ (.slice a N c) := ⟨_, rfl⟩
    rw [← hW]
    obtain ⟨⟨r0, r1, r2⟩, e1, e2⟩ := ended hi hj (by omega) P4.it S4.it R4.it W hW
    refine bodyPost_ret (v := .tuple #[.agg #[.int .i64 rt, .int .i64 rw, .slice a N c], .bool true]) (by simp [results, Tryd.results21, go_sem, r0, r1, r2]) rfl ?_
    exact ⟨_, _, rfl, e1, e2⟩
  | false =>
    go_wp2
    obtain ⟨W, hW⟩ : ∃ W, W = ((w4.setCell ⟨w.heap.size + 1 + 1, 0, none⟩ (.int .i64 rt)).setCell ⟨w.heap.size + 1 + 1, 1, none⟩ (.int .i64 rw)).setCell ⟨w.heap.size + 1 + 1, 2, none⟩ (.slice a N c) := ⟨_, rfl⟩
    rw [← hW]
    obtain ⟨⟨r0, r1, r2⟩, e1, e2⟩ := ended hi hj (by omega) P4.it S4.it R4.it W hW
    refine bodyPost_ret (v := .tuple #[.agg #[.int .i64 rt, .int .i64 rw, .slice a N c], .bool true]) (by simp [results, Tryd.results21, go_sem, r0, r1, r2]) rfl ?_
    exact ⟨_, _, rfl, e1, e2⟩
end Go.Proofs.YtnljgklmaljfjaaDoor
