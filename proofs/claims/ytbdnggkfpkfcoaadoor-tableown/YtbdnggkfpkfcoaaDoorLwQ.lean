/-
  culvertlaw15.TableOwn: the walk
-/
import Derived.Test.YtbdnggkfpkfcoaaDoorLwO
namespace Go.Proofs.YtbdnggkfpkfcoaaDoor
open Go.RowKit Tbint

set_option maxRecDepth 20000 in
set_option maxHeartbeats 8000000 in
theorem tableOwn_walk {A : Nat → Addr} (s1 : Value) (zs : List OpV15) (s2 : Value) (ys : List OpV15) (w : World) (hs : Sents 148 codeVars A w) (hz : Ops15Arg w s1 zs) (hy : Ops15Arg w s2 ys) :
    Calls Tryd.prog 8 #[s1, s2] w fun e w' => e = .returned (.bool true) ∧ Below w.heap.size w w' := by
  obtain ⟨hz, hz24⟩ := hz
  obtain ⟨hy, hy24⟩ := hy
  have HZ := Aside.mk hz
  have HY := Aside.mk hy
  obtain ⟨a, c, rfl, hzc, hcm, _⟩ := hz
  obtain ⟨a2, c2, rfl, hyc, hcm2, _⟩ := hy
  obtain ⟨N, hN⟩ : ∃ N, zs.length = N := ⟨_, rfl⟩
  obtain ⟨M, hM⟩ : ∃ M, ys.length = M := ⟨_, rfl⟩
  have HN := Aside.mk hN
  have HM := Aside.mk hM
  rw [hN] at hzc hz24 ⊢
  rw [hM] at hyc hy24 ⊢
  have WK := Aside.mk (wakes15 hs)
  have HS := Aside.mk hs
  clear hs hN hM
  go_enter Tryd.func8, Tryd.ntmps8
  go_upto_region 3 with (go_at_call 9; refine WK.it.mono ?_; rintro e w1 ⟨rfl, K1⟩)
  clear WK
  have S1 := Aside.mk (HS.it.later K1.it.bel)
  have N1 := Aside.mk (new_ok 9 (by decide) w1 (fun _ => 0) 1)
  go_upto_region 4 with (go_at_call 10; refine N1.it.mono ?_; rintro e w2 ⟨p, own2, rfl, X2⟩)
  have N2 := Aside.mk (new_ok 4 (by decide) w2 own2 2)
  go_upto_region 7 with (go_at_call 10; refine N2.it.mono ?_; rintro e w3 ⟨p2, own3, rfl, X3⟩)
  have D1 := Aside.mk (dnew 9 w3)
  go_upto_region 8 with (go_at_call 11; refine D1.it.mono ?_; rintro e w4 ⟨rfl, K4⟩)
  have D2 := Aside.mk (dnew 4 (w4.alloc (.cells #[.int .i64 9, .slice none 0 0] 31)))
  go_upto_region 10 with (go_at_call 11; refine D2.it.mono ?_; rintro e w5 ⟨rfl, K5⟩)
  have P0 : Aside (Po A w1 (give own3 w3.heap.size 8) (w5.alloc (.cells #[.int .i64 4, .slice none 0 0] 31)) p [] (.slice none 0 0) w4.heap.size (.slice none 0 0) p2 [] (.slice none 0 0) w5.heap.size (.slice none 0 0)) := by
    have KA : Keeps Nowhere w3 (w5.alloc (.cells #[.int .i64 4, .slice none 0 0] 31)) := (((K4.it.alloc _).trans K5.it).alloc _)
    have G2 := (OnG.start S1.it).sn X2.it.2.2 (fun x => x)
    have G3 := G2.sn X3.it.2.2 (fun x => x)
    have T3 := X2.it.1.sn X3.it.2.2 (fun x => x)
    have hs5 := K5.it.size
    rw [World.size_alloc] at hs5
    refine ⟨⟨G3.sn (I := fun _ => False) (Sn.quiet KA 8) (fun x => x), ⟨T3.sn (I := fun _ => False) (Sn.quiet KA 8) (fun x => x), RdD.nil _ _⟩, ⟨X3.it.1.sn (I := fun _ => False) (Sn.quiet KA 8) (fun x => x), RdD.nil _ _⟩, ⟨?_, give_new K4.it.size⟩, ⟨Cells.new w5 _ _, give_new (by have := K4.it.size; omega)⟩, by omega⟩⟩
    exact ((Cells.new w4 _ [.int .i64 9, .slice none 0 0]).later K5.it (fun x => x)).later ((Keeps.refl Nowhere _).alloc _) (fun x => x)
  generalize give own3 w3.heap.size 8 = own5 at P0
  obtain ⟨wb, hwb⟩ : ∃ wb, w4.heap.size = wb := ⟨_, rfl⟩
  obtain ⟨xb, hxb⟩ : ∃ xb, w5.heap.size = xb := ⟨_, rfl⟩
  rw [hwb, hxb] at P0 ⊢
  clear hwb hxb X2 X3 N1 N2 D1 D2
  generalize (w5.alloc (.cells #[.int .i64 4, .slice none 0 0] 31)) = W5 at P0 ⊢
  go_loopw [13, 14, 15, 16, 17] (fun v _ _ _ _ wr => ∃ (j : Nat) (L L2 : Tl Int) (vv uu : Value) (own : Nat → Nat), v = .int .i64 j ∧ j ≤ max N M ∧ Aside (Po A w1 own wr p L vv wb vv p2 L2 uu xb uu)) (fun v _ _ _ _ _ => max N M - natOf v)
  case atStart => exact ⟨0, [], [], _, _, own5, rfl, Nat.zero_le _, P0⟩
  case round =>
    clear P0
    obtain ⟨j, L, L2, vv, uu, own, rfl, hj, P⟩ := hrel
    have hmx : max N M ≤ 8796093022208 := by omega
    by_cases hend : N ≤ j ∧ M ≤ j
    · have e1 : decide (j < N) = false := decide_eq_false (by omega)
      have e2 : decide (j < M) = false := decide_eq_false (by omega)
      obtain ⟨c0, c1, f0, f1, c2, c3, f2, f3⟩ := P.it.cells
      obtain ⟨va, vc, hv, _⟩ := P.it.t.d.shape
      obtain ⟨ua, uc, hu, _⟩ := P.it.s.d.shape
      subst hv hu
      have W1 := Aside.mk (walked_ok wr 9 P.it.t.t P.it.t.d)
      go_upto_region 25 with fail
      go_wp2_with fail
      refine W1.it.mono ?_
      rintro e w6 ⟨rfl, K6⟩
      have P6 := Aside.mk (P.it.quiet K6.it)
      have W2 := Aside.mk (walked_ok w6 4 P6.it.s.t P6.it.s.d)
      obtain ⟨d0, d1, _, _, d2, d3, _, _⟩ := P6.it.cells
      go_wp2_with fail
      refine W2.it.mono ?_
      rintro e w7 ⟨rfl, K7⟩
      go_wp2_with fail
      go_ret
      exact ⟨rfl, (K1.it.trans (P6.it.bel.trans K7.it)).bel⟩
    · have hgo : j < N ∨ j < M := by omega
      obtain ⟨va, vc, hv, _⟩ := P.it.t.d.shape
      obtain ⟨ua, uc, hu, _⟩ := P.it.s.d.shape
      subst hv hu
      generalize L.length = nl at P
      generalize L2.length = ml at P
      go_upto_region 10 with fail
      go_cut [59] from 50 to 124 (fun v wx => v = .bool true ∧ wx = wr)
      case first =>
        by_cases h1 : j < N
        · have e1 : decide (j < N) = true := decide_eq_true h1
          go_wp2_with fail
          go_meet
          case rel => exact ⟨rfl, rfl⟩
        · have e1 : decide (j < N) = false := decide_eq_false h1
          have e2 : decide (j < M) = true := decide_eq_true (by omega)
          go_wp2_with fail
          go_meet
          case rel => exact ⟨rfl, rfl⟩
      case rest =>
      obtain ⟨rfl, rfl⟩ := hcut
      go_upto_if 65 with fail
      go_cut [14] from 50 to 124 (fun vo wx => vo = .bool true ∧ ∃ (L : Tl Int) (qa : Option Addr) (ql qc : Nat) (own : Nat → Nat), Aside (Po A w1 own wx p L (.slice qa ql qc) wb (.slice qa ql qc) p2 L2 (.slice ua ml uc) xb (.slice ua ml uc)))
      case first =>
        by_cases h1 : j < N
        · have e1 : decide (j < N) = true := decide_eq_true h1
          obtain ⟨z, hz⟩ : ∃ z, zs[j]? = some z := ⟨_, List.getElem?_eq_getElem (by rw [HN.it]; exact h1)⟩
          have hzw := HZ.it
          rw [HN.it] at hzw
          obtain ⟨b, o, rfl, x0, x1, x2, hid⟩ := op_cells (by rw [HN.it]; exact hzw) hz
          obtain ⟨kd, id, x⟩ := z
          simp only at x0 x1 x2 hid
          have OQ : Aside (OpAt w1 b (o + j * 3) kd id x) := ⟨OpAt.later ⟨World.block_lt_of_cell? w _ x0, x0, x1, x2⟩ K1.it⟩
          have Pd := Aside.mk (P.it.quiet (Keeps.refl _ _).drew)
          obtain ⟨c0, c1, _, _, _, _, _, _⟩ := Pd.it.cells
          clear hz hzw x0 x1 x2 P
          go_upto_region 14 with fail
          obtain ⟨o0, o1, o2⟩ := Po.op OQ Pd
          go_region_with (first
            | (go_at_call 13; with_reducible refine (po_step1 Pd hid).mono ?_; rintro e w6 ⟨qa, ql, qc, L6, own6, rfl, P6⟩; obtain ⟨k0, k1, k2, k3, _⟩ := P6.it.cells)
            | fail)
          all_goals go_wp2_with fail
          all_goals go_meet
          all_goals exact ⟨rfl, L6, qa, ql, qc, own6, ⟨P6.it.write1 _⟩⟩
        · have e1 : decide (j < N) = false := decide_eq_false h1
          go_wp2_with fail
          go_meet
          case rel => exact ⟨rfl, L, va, nl, vc, own, P⟩
      case rest =>
      clear P
      obtain ⟨rfl, L, qa, ql, qc, own, P⟩ := hcut
      generalize wc = wr at P ⊢
      go_upto_if 82 with fail
      go_cut [14] from 50 to 124 (fun vo wx => vo = .bool true ∧ ∃ (L2 : Tl Int) (ra : Option Addr) (rl rc : Nat) (own : Nat → Nat), Aside (Po A w1 own wx p L (.slice qa ql qc) wb (.slice qa ql qc) p2 L2 (.slice ra rl rc) xb (.slice ra rl rc)))
      case first =>
        by_cases h1 : j < M
        · have e1 : decide (j < M) = true := decide_eq_true h1
          obtain ⟨z, hz⟩ : ∃ z, ys[j]? = some z := ⟨_, List.getElem?_eq_getElem (by rw [HM.it]; exact h1)⟩
          have hzw := HY.it
          rw [HM.it] at hzw
          obtain ⟨b, o, rfl, x0, x1, x2, hid⟩ := op_cells (by rw [HM.it]; exact hzw) hz
          obtain ⟨kd, id, x⟩ := z
          simp only at x0 x1 x2 hid
          have OQ : Aside (OpAt w1 b (o + j * 3) kd id x) := ⟨OpAt.later ⟨World.block_lt_of_cell? w _ x0, x0, x1, x2⟩ K1.it⟩
          have Pd := Aside.mk (P.it.quiet (Keeps.refl _ _).drew)
          obtain ⟨_, _, _, _, c0, c1, _, _⟩ := Pd.it.cells
          clear hz hzw x0 x1 x2 P
          go_upto_region 16 with fail
          obtain ⟨o0, o1, o2⟩ := Po.op OQ Pd
          go_region_with (first
            | (go_at_call 13; with_reducible refine (po_step2 Pd hid).mono ?_; rintro e w6 ⟨ra, rl, rc, L6, own6, rfl, P6⟩; obtain ⟨_, _, _, _, k0, k1, k2, k3⟩ := P6.it.cells)
            | fail)
          all_goals go_wp2_with fail
          all_goals go_meet
          all_goals exact ⟨rfl, L6, ra, rl, rc, own6, ⟨P6.it.write2 _⟩⟩
        · have e1 : decide (j < M) = false := decide_eq_false h1
          go_wp2_with fail
          go_meet
          case rel => exact ⟨rfl, L2, ua, ml, uc, own, P⟩
      case rest =>
      obtain ⟨rfl, L3, ra, rl, rc, own3, P3⟩ := hcut
      generalize wc = wr3 at P3 ⊢
      clear P
      have IA := Aside.mk (ids_at P3.it.t.t)
      go_wp2_with fail
      refine IA.it.mono ?_
      rintro e w6 ⟨ga, capa, rfl, hga, RA, KA⟩
      have P6 := Aside.mk (P3.it.step KA.it 5)
      have OA : Aside (give own3 wr3.heap.size 5 ga = 5 ∧ ga < w6.heap.size) := ⟨give_new hga, owns_lt RA.it ga rfl⟩
      generalize give own3 wr3.heap.size 5 = own6 at P6 OA
      clear IA P3
      have IB := Aside.mk (ids_at P6.it.t.t)
      have LU := up_len P6.it.t.t.up
      have LU2 := up_len P6.it.s.t.up
      go_wp2_with fail
      refine IB.it.mono ?_
      rintro e w7 ⟨gb, capb, rfl, hgb, RB, KB⟩
      have P7 := Aside.mk (P6.it.step KB.it 6)
      have OB : Aside (give own6 w6.heap.size 6 gb = 6 ∧ give own6 w6.heap.size 6 ga = 5) := ⟨give_new hgb, (give_old OA.it.2).trans OA.it.1⟩
      generalize give own6 w6.heap.size 6 = own7 at P7 OB
      have RA7 := Aside.mk (owns_later RA.it KB.it (fun _ _ x => x))
      have hab : ¬ gb = ga := by have := OA.it.2; omega
      have WA := Aside.mk (wipe15 77 RA7.it LU)
      clear IB P6 OA RA
      go_wp2_with fail
      refine WA.it.mono ?_
      rintro e w8 ⟨rfl, K8⟩
      have P8 := Aside.mk (P7.it.sn (I := fun k => k = 5) ⟨fun _ _ => rfl, K8.it.mono (fun k e _ => by rw [e]; exact OB.it.2)⟩ (by decide) (by decide) (by decide) (by decide) (by decide))
      have RB8 := Aside.mk (owns_later RB.it K8.it (fun b e e' => by cases e; exact hab e'))
      have UB8 := Aside.mk (owns_rdU RB8.it)
      obtain ⟨c0, c1, _, _, c2, c3, _, _⟩ := P8.it.cells
      have DA := Aside.mk (po_dids1 P8 UB8)
      clear WA P7 RA7
      go_wp2_with (first
        | (go_at_call 30; refine DA.it.mono ?_; rintro e w9 ⟨v9, rfl, R9, RB9, P9, K9⟩; have SA := Aside.mk (po_same P9 RB9 R9))
        | (go_at_call 28; refine SA.it.mono ?_; rintro e w10 ⟨rfl, P10, K10⟩
           have IC := Aside.mk (ids_at P10.it.t.t))
        | (go_at_call 35; refine IC.it.mono ?_; rintro e w11 ⟨gc, capc, rfl, hgc, RC, KC⟩)
        | fail)
      have K810 := Aside.mk (K9.it.trans K10.it)
      have hgbl : gb < w10.heap.size := Nat.lt_of_lt_of_le (owns_lt RB8.it gb rfl) K810.it.size
      have RB11 := Aside.mk (owns_later RB8.it (K810.it.trans KC.it) (fun _ _ x => x))
      have P11 := Aside.mk (P10.it.step KC.it 4)
      have OC : Aside (give own7 w10.heap.size 4 gb = 6) := ⟨(give_old hgbl).trans OB.it.1⟩
      generalize give own7 w10.heap.size 4 = own11 at P11 OC
      have WB := Aside.mk (wipe15 78 RB11.it LU)
      refine WB.it.mono ?_
      rintro e w12 ⟨rfl, K12⟩
      have P12 := Aside.mk ((P11.it.sn (I := fun k => k = 6) ⟨fun _ _ => rfl, K12.it.mono (fun k e _ => by rw [e]; exact OC.it)⟩ (by decide) (by decide) (by decide) (by decide) (by decide)).quiet (Keeps.refl _ _).drew)
      have UC : Aside (RdU w12.drew (.slice (some ⟨gc, 0, none⟩) L.length capc) (ks L)) := ⟨(owns_rdU (owns_later RC.it K12.it (fun b e e' => by cases e; have e2 : gc = gb := e'; omega))).quiet (Keeps.refl _ _).drew⟩
      clear WB P11 P10 P9 P8 IC SA DA RB11 RB8 UB8 RB9 R9 RB RC OB OC K12 KC K810 K9 K10 K8 KA KB c0 c1 c2 c3 hgbl hab
      go_upto_region 23 with fail
      go_region_held3 (fun w' => w'.cell? ⟨wb, 0, none⟩ = some (.int .i64 9) ∧ w'.cell? ⟨wb, 1, none⟩ = some (.slice qa ql qc) ∧ w'.cell? ⟨xb, 0, none⟩ = some (.int .i64 4) ∧ w'.cell? ⟨xb, 1, none⟩ = some (.slice ra rl rc)) (with_reducible exact Po.h4 (by with_reducible assumption)) (first
        | (go_at_call 28; with_reducible refine (po_same (by with_reducible assumption) (by with_reducible assumption) (by with_reducible assumption)).mono ?_; rintro e w20 ⟨rfl, P20, _⟩)
        | (go_at_call 30; with_reducible refine (po_dids1 (by with_reducible assumption) (by with_reducible assumption)).mono ?_; rintro e w21 ⟨v21, rfl, R21, U21, P21, _⟩)
        | (go_at_call 30; with_reducible refine (po_dids2 (by with_reducible assumption) (by with_reducible assumption)).mono ?_; rintro e w22 ⟨v22, rfl, R22, U22, P22, _⟩)
        | (go_at_call 35; with_reducible refine (po_ids2 (by with_reducible assumption)).mono ?_; rintro e w23 ⟨g23, cap23, rfl, U23, P23⟩)
        | fail)
      all_goals
        go_wp2_with fail
        go_roundw
        case rel => exact ⟨j + 1, L, L3, _, _, own11, by go_num, by omega, P20⟩
        case measure => simp [natOf]; omega
end Go.Proofs.YtbdnggkfpkfcoaaDoor
