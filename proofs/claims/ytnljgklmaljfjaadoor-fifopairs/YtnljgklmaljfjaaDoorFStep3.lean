/-
  culvertlaw03.step: Remove, any other kind
-/
import Derived.Test.YtnljgklmaljfjaaDoorFStep0
namespace Go.Proofs.YtnljgklmaljfjaaDoor
open Go.RowKit Fint

set_option maxHeartbeats 4000000 in
theorem step_other {own : Nat → Nat} {i j p rt rw : Nat} {q : Things} {a : Option Addr} {c : Nat} (w : World) (h : Both own i j w p rt rw (.slice a q.length c) q) (hi : i ≠ 0) (hj : j ≠ 0)
    (kind : Int) (V Wt : Int) (wa : Option Addr) (wl wc : Nat) (hk : kind ≠ 1 ∧ kind ≠ 2 ∧ kind ≠ 3 ∧ kind ≠ 4 ∧ kind ≠ 5 ∧ kind ≠ 6 ∧ kind ≠ 7) :
    Calls Tryd.prog 21 #[.pointer (some ⟨p, 0, none⟩), .agg #[.int .i64 rt, .int .i64 rw, .slice a q.length c], .agg #[.int .i64 kind, .int .i64 V, .int .i64 Wt, .slice wa wl wc]] w fun e w' => Stepped own i j w p rt rw q e w' := by
  obtain ⟨N, hN⟩ : ∃ N, N = q.length := ⟨_, rfl⟩
  have BG : Aside _ := ⟨began w a c kind V Wt (.slice wa wl wc) N hN h⟩
  rw [← hN]
  obtain ⟨W0, hW0⟩ : ∃ W0, W0 = ((w.alloc (.cells #[.int .i64 rt, .int .i64 rw, .slice a N c] 35)).alloc (.cells #[.int .i64 kind, .int .i64 V, .int .i64 Wt, .slice wa wl wc] 41)).alloc (.cells #[.int .i64 0, .int .i64 0, .slice none 0 0] 35) := ⟨_, rfl⟩
  rw [← hW0] at BG
  have d0 : W0.cell? ⟨w.heap.size, 0, none⟩ = some (.int .i64 rt) := by rw [BG.it.box.1.cell]; rfl
  have d1 : W0.cell? ⟨w.heap.size, 1, none⟩ = some (.int .i64 rw) := by rw [BG.it.box.1.cell]; rfl
  have d2 : W0.cell? ⟨w.heap.size, 2, none⟩ = some (.slice a N c) := by rw [BG.it.box.1.cell]; rfl
  have o0 : W0.cell? ⟨w.heap.size + 1, 0, none⟩ = some (.int .i64 kind) := by rw [BG.it.op.1.cell]; rfl
  have HN : Aside _ := ⟨hN⟩
  clear h hN
  go_enter Tryd.func21, Tryd.ntmps21
  go_upto_region 1 with fail
  rw [← hW0]
  clear hW0
  obtain ⟨k1, k2, k3, k4, k5, k6, k7⟩ := hk
  have R0 : Aside _ := ⟨BG.it.res⟩
  have x0 : W0.cell? ⟨w.heap.size + 1 + 1, 0, none⟩ = some (.int .i64 0) := by rw [R0.it.1.cell]; rfl
  have x1 : W0.cell? ⟨w.heap.size + 1 + 1, 1, none⟩ = some (.int .i64 0) := by rw [R0.it.1.cell]; rfl
  have x2 : W0.cell? ⟨w.heap.size + 1 + 1, 2, none⟩ = some (.slice none 0 0) := by rw [R0.it.1.cell]; rfl
  have z0 := R0.it.1.frozen 0
  have z1 := R0.it.1.frozen 1
  have z2 := R0.it.1.frozen 2
  go_wp2
  obtain ⟨W, hW⟩ : ∃ W, W = ((W0.setCell ⟨w.heap.size + 1 + 1, 0, none⟩ (.int .i64 rt)).setCell ⟨w.heap.size + 1 + 1, 1, none⟩ (.int .i64 rw)).setCell ⟨w.heap.size + 1 + 1, 2, none⟩ (.slice a N c) := ⟨_, rfl⟩
  rw [← hW]
  obtain ⟨⟨r0, r1, r2⟩, e1, e2⟩ := ended hi hj (by omega) BG.it.pair BG.it.since R0.it W hW
  refine bodyPost_ret (v := .tuple #[.agg #[.int .i64 rt, .int .i64 rw, .slice a N c], .bool true]) (by simp [results, Tryd.results21, go_sem, r0, r1, r2]) rfl ?_
  exact ⟨_, _, rfl, e1, e2⟩
set_option maxHeartbeats 4000000 in
theorem step_remove {own : Nat → Nat} {i j p rt rw : Nat} {q : Things} {a : Option Addr} {c : Nat} (w : World) (h : Both own i j w p rt rw (.slice a q.length c) q) (hij : i ≠ j) (hi : i ≠ 0) (hj : j ≠ 0)
    (hb : q.length ≤ 4398046511103) (V Wt : Int) (wa : Option Addr) (wl wc : Nat) (ns : List Int) (hwr : ReadsOff (fun k => own k = i) w (.slice wa wl wc) (iv ns)) (hwn : ns.length ≤ maxLen) :
    Calls Tryd.prog 21 #[.pointer (some ⟨p, 0, none⟩), .agg #[.int .i64 rt, .int .i64 rw, .slice a q.length c], .agg #[.int .i64 5, .int .i64 V, .int .i64 Wt, .slice wa wl wc]] w fun e w' => Stepped own i j w p rt rw (restQ ns q) e w' := by
  obtain ⟨N, hN⟩ : ∃ N, N = q.length := ⟨_, rfl⟩
  have BG : Aside _ := ⟨began w a c 5 V Wt (.slice wa wl wc) N hN h⟩
  rw [← hN]
  obtain ⟨W0, hW0⟩ : ∃ W0, W0 = ((w.alloc (.cells #[.int .i64 rt, .int .i64 rw, .slice a N c] 35)).alloc (.cells #[.int .i64 5, .int .i64 V, .int .i64 Wt, .slice wa wl wc] 41)).alloc (.cells #[.int .i64 0, .int .i64 0, .slice none 0 0] 35) := ⟨_, rfl⟩
  rw [← hW0] at BG
  have RM := removes_ok W0 (own := give own w.heap.size 0) (s := .slice a N c) BG.it.pair.both hij hb (.slice wa wl wc) ns (((hwr.mono (S' := fun k => give own w.heap.size 0 k = i) (fun k e hlt => by rwa [give_old hlt] at e)).later BG.it.keeps.any).mono (fun k e _ => .inl e)) hwn
  have RMH := hide RM
  clear RM hwr hwn
  have HB : Aside _ := ⟨hb⟩
  have d0 : W0.cell? ⟨w.heap.size, 0, none⟩ = some (.int .i64 rt) := by rw [BG.it.box.1.cell]; rfl
  have d1 : W0.cell? ⟨w.heap.size, 1, none⟩ = some (.int .i64 rw) := by rw [BG.it.box.1.cell]; rfl
  have d2 : W0.cell? ⟨w.heap.size, 2, none⟩ = some (.slice a N c) := by rw [BG.it.box.1.cell]; rfl
  have o0 : W0.cell? ⟨w.heap.size + 1, 0, none⟩ = some (.int .i64 5) := by rw [BG.it.op.1.cell]; rfl
  have HN : Aside _ := ⟨hN⟩
  clear h hb hN
  go_enter Tryd.func21, Tryd.ntmps21
  go_upto_region 1 with fail
  rw [← hW0]
  clear hW0
  have o3 : W0.cell? ⟨w.heap.size + 1, 3, none⟩ = some (.slice wa wl wc) := by rw [BG.it.op.1.cell]; rfl
  go_wp2_with fail
  refine RMH.out.mono ?_
  rintro e w1 ⟨s', own', rfl, b1, ag, k1⟩
  obtain ⟨g0, g1, g2, hs'⟩ : ∃ a l c, s' = .slice a l c := by
    obtain ⟨_, a, c, e, _⟩ := b1.it.reads
    exact ⟨_, _, _, e⟩
  subst hs'
  have R1 : Aside (CellsO own' 0 w1 (w.heap.size + 1 + 1) 35 [.int .i64 0, .int .i64 0, .slice none 0 0]) := ⟨⟨BG.it.res.1.later k1.it (fun e => hi (e.symm.trans BG.it.res.2)), (ag.it _ BG.it.res.1.lt).trans BG.it.res.2⟩⟩
  have S1 : Aside (Since own i w own' w1) := ⟨⟨fun k hlt => (ag.it k (Nat.lt_of_lt_of_le hlt BG.it.keeps.size)).trans (BG.it.since.agree k hlt), BG.it.since.keeps.next k1.it (fun k e hlt => (BG.it.since.agree k hlt).symm.trans e)⟩⟩
  clear o3 d0 d1 d2 o0
  have x0 : w1.cell? ⟨w.heap.size + 1 + 1, 0, none⟩ = some (.int .i64 0) := by rw [R1.it.1.cell]; rfl
  have x1 : w1.cell? ⟨w.heap.size + 1 + 1, 1, none⟩ = some (.int .i64 0) := by rw [R1.it.1.cell]; rfl
  have x2 : w1.cell? ⟨w.heap.size + 1 + 1, 2, none⟩ = some (.slice none 0 0) := by rw [R1.it.1.cell]; rfl
  have z0 := R1.it.1.frozen 0
  have z1 := R1.it.1.frozen 1
  have z2 := R1.it.1.frozen 2
  go_wp2
  obtain ⟨W, hW⟩ : ∃ W, W = ((w1.setCell ⟨w.heap.size + 1 + 1, 0, none⟩ (.int .i64 rt)).setCell ⟨w.heap.size + 1 + 1, 1, none⟩ (.int .i64 rw)).setCell ⟨w.heap.size + 1 + 1, 2, none⟩ (.slice g0 g1 g2) := ⟨_, rfl⟩
  rw [← hW]
  obtain ⟨⟨r0, r1, r2⟩, e1, e2⟩ := ended hi hj (by omega) b1.it.pair S1.it R1.it W hW
  refine bodyPost_ret (v := .tuple #[.agg #[.int .i64 rt, .int .i64 rw, .slice g0 g1 g2], .bool true]) (by simp [results, Tryd.results21, go_sem, r0, r1, r2]) rfl ?_
  exact ⟨_, _, rfl, e1, e2⟩
end Go.Proofs.YtnljgklmaljfjaaDoor
