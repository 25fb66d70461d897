/-
  culvertlaw22.HandlesOwn
-/
import Derived.Test.YtjloedcikcamkaaDoorHnX
import Derived.Deep.RegionWith
import Derived.Deep.CutBlock
namespace Go.Proofs.YtjloedcikcamkaaDoor
open Go.RowKit

set_option maxRecDepth 20000 in
set_option maxHeartbeats 8000000 in
theorem handlesOwn_walkU {A : Nat → Addr} (s : Value) (zs : List OpV22) (s2 : Value) (ys : List OpV22) (w : World) (hs : Sents 113 codeVars A w) (hz : Ops22ArgU w s zs) (hy : Ops22ArgU w s2 ys) :
    Calls Tryd.prog 7 #[s, s2] w fun e w' => e = .returned (.bool true) ∧ Below w.heap.size w w' := by
  obtain ⟨hz, hzN⟩ := hz
  obtain ⟨hy, hyN⟩ := hy
  have HZ := Aside.mk hz
  have HY := Aside.mk hy
  obtain ⟨a, c, rfl, hzc, hcm, _⟩ := hz
  obtain ⟨a2, c2, rfl, hyc, hcm2, _⟩ := hy
  obtain ⟨N, hN⟩ : ∃ N, zs.length = N := ⟨_, rfl⟩
  obtain ⟨M, hM⟩ : ∃ M, ys.length = M := ⟨_, rfl⟩
  have HN := Aside.mk hN
  have HM := Aside.mk hM
  rw [hN] at hzc hzN ⊢
  rw [hM] at hyc hyN ⊢
  have WK := Aside.mk (wakes22 hs)
  have HS := Aside.mk hs
  have hNm : (N : Int) ≤ 1048576 := by omega
  have hMm : (M : Int) ≤ 1048576 := by omega
  clear hs hN hM
  go_enter Tryd.func7, Tryd.ntmps7
  go_upto_region 3 with (go_at_call 8; refine WK.it.mono ?_; rintro e w1 ⟨rfl, K1⟩)
  clear WK
  have S1 := Aside.mk (HS.it.later K1.it.bel)
  have N1 := Aside.mk (new_at w1 (fun _ => 0) 1)
  go_upto_region 4 with (first
    | (go_at_call 9; refine N2.it.mono ?_; rintro e w3 ⟨p2, own3, rfl, X3⟩)
    | (go_at_call 9; refine N1.it.mono ?_; rintro e w2 ⟨p, own2, rfl, X2⟩; have N2 := Aside.mk (new_at w2 own2 2)))
  have P0 : Aside (Po A w1 (give own3 w3.heap.size 8) ((w3.alloc (.cells #[.int .i64 0, .slice none 0 0] 28)).alloc (.cells #[.int .i64 0, .slice none 0 0] 28)) p 0 [] (.slice none 0 0) w3.heap.size 0 (.slice none 0 0) p2 0 [] (.slice none 0 0) (w3.heap.size + 1) 0 (.slice none 0 0) []) := by
    have KA : Keeps Nowhere w3 ((w3.alloc (.cells #[.int .i64 0, .slice none 0 0] 28)).alloc (.cells #[.int .i64 0, .slice none 0 0] 28)) := ((Keeps.refl _ _).alloc _).alloc _
    have G2 := (OnG.start S1.it).sn X2.it.2.2 (fun x => x)
    have G3 := G2.sn X3.it.2.2 (fun x => x)
    have T3 := X2.it.1.sn X3.it.2.2 (fun x => x)
    have CB := Cells.new (w3.alloc (.cells #[.int .i64 0, .slice none 0 0] 28)) 28 [.int .i64 0, .slice none 0 0]
    rw [World.size_alloc] at CB
    exact ⟨⟨G3.sn (I := fun _ => False) (Sn.quiet KA 8) (fun x => x), ⟨T3.sn (I := fun _ => False) (Sn.quiet KA 8) (fun x => x), RdH.nil _ _⟩, ⟨X3.it.1.sn (I := fun _ => False) (Sn.quiet KA 8) (fun x => x), RdH.nil _ _⟩, ⟨(Cells.new w3 _ [.int .i64 0, .slice none 0 0]).later ((Keeps.refl Nowhere _).alloc _) (fun x => x), give_new (Nat.le_refl _)⟩, ⟨CB, give_new (by omega)⟩, by omega, fun x hx => (by cases hx)⟩⟩
  generalize give own3 w3.heap.size 8 = own5 at P0
  clear X2 X3 N1 S1
  go_upto_region 6 with fail
  generalize ((w3.alloc (.cells #[.int .i64 0, .slice none 0 0] 28)).alloc (.cells #[.int .i64 0, .slice none 0 0] 28)) = W5 at P0 ⊢
  obtain ⟨wb, hwb⟩ : ∃ wb, w3.heap.size = wb := ⟨_, rfl⟩
  obtain ⟨xb, hxb⟩ : ∃ xb, w3.heap.size + 1 = xb := ⟨_, rfl⟩
  rw [hxb, hwb] at P0 ⊢
  try clear hwb hxb
  go_loopw [9, 10] (fun v _ wr => ∃ (j g g2 : Nat) (L L2 : Hl) (vv uu : Value) (own : Nat → Nat), v = .int .i64 j ∧ j ≤ max N M ∧ g ≤ j ∧ g2 ≤ j ∧ Aside (Po A w1 own wr p g L vv wb g vv p2 g2 L2 uu xb g2 uu [])) (fun v _ _ => max N M - natOf22 v)
  case atStart => exact ⟨0, 0, 0, [], [], _, _, own5, rfl, Nat.zero_le _, Nat.le_refl _, Nat.le_refl _, P0⟩
  case round =>
    clear P0
    obtain ⟨j, g, g2, L, L2, vv, uu, own, rfl, hj, hgj, hgj2, P⟩ := hrel
    have hmx : max N M ≤ 1048576 := by omega
    obtain ⟨va, vc, hv, _⟩ := P.it.t.d.shape
    obtain ⟨ua, uc, hu, _⟩ := P.it.s.d.shape
    subst hv hu
    generalize L.length = nl at P
    generalize L2.length = ml at P
    by_cases hend : N ≤ j ∧ M ≤ j
    · have e1 : decide ((j : Int) < N) = false := decide_eq_false (by omega)
      have e2 : decide ((j : Int) < M) = false := decide_eq_false (by omega)
      have e1' : ¬ (j : Int) < N := by omega
      have e2' : ¬ (j : Int) < M := by omega
      obtain ⟨c0, c1, _, _, c2, c3, _, _⟩ := P.it.cells
      have SA := Aside.mk (same22 P.it.t)
      go_wp2_with (first
        | (go_at_call 11; refine SB.it.mono ?_; rintro e w7 ⟨rfl, K7⟩)
        | (go_at_call 11; refine SA.it.mono ?_; rintro e w6 ⟨rfl, K6⟩; have P6 := Aside.mk (P.it.quiet K6.it); have SB := Aside.mk (same22 P6.it.s); obtain ⟨d0, d1, _, _, d2, d3, _, _⟩ := P6.it.cells)
        | fail)
      go_ret
      exact ⟨rfl, (K1.it.trans (P6.it.bel.trans K7.it)).bel⟩
    · go_upto_region 6 with fail
      go_cut [32] from 23 to 117 (fun v wx => v = .bool true ∧ wx = wr)
      case first =>
        by_cases h1 : j < N
        · have e1 : decide (j < N) = true := decide_eq_true h1
          go_wp2_with fail
          go_meet
          case rel => exact ⟨rfl, rfl⟩
        · have e1 : decide (j < N) = false := decide_eq_false h1
          have e2 : decide (j < M) = true := decide_eq_true (by omega)
          go_wp2_with fail
          go_meet
          case rel => exact ⟨rfl, rfl⟩
      case rest =>
      obtain ⟨rfl, rfl⟩ := hcut
      go_upto_if 38 with fail
      go_cut [10] from 23 to 117 (fun vo wx => vo = .bool true ∧ ∃ (g2 : Nat) (L2 : Hl) (qa : Option Addr) (ql qc : Nat) (own : Nat → Nat), Aside (g2 ≤ j + 1) ∧ Aside (Po A w1 own wx p g L (.slice va nl vc) wb g (.slice va nl vc) p2 g2 L2 (.slice qa ql qc) xb g2 (.slice qa ql qc) []))
      case first =>
        by_cases h1 : j < M
        · have e1 : decide (j < M) = true := decide_eq_true h1
          obtain ⟨z, hz⟩ : ∃ z, ys[j]? = some z := ⟨_, List.getElem?_eq_getElem (by rw [HM.it]; exact h1)⟩
          obtain ⟨b, o, rfl, x0, x1, x2, x3, x4, hpw, hhw⟩ := op22_cells HY.it hz
          obtain ⟨kd, ⟨xc, xl, xd⟩, hh⟩ := z
          simp only at x0 x1 x2 x3 x4 hpw hhw
          have OQ : Aside (OpAt w1 b (o + j * 5) kd xc xl xd hh) := ⟨OpAt.later ⟨World.block_lt_of_cell? w _ x0, x0, x1, x2, x3, x4⟩ K1.it⟩
          have Pd := Aside.mk (P.it.quiet (Keeps.refl _ _).drew)
          obtain ⟨_, _, _, _, c0, c1, _, _⟩ := Pd.it.cells
          have hg31 : g2 < 2147483648 := by omega
          clear hz x0 x1 x2 x3 x4 P
          go_upto_region 10 with fail
          obtain ⟨o0, o1, o2, o3, o4⟩ := Pd.it.op OQ.it
          go_region_with (first
            | (go_at_call 10; with_reducible refine (po_step2 Pd hpw hhw hg31).mono ?_; rintro e w6 ⟨g6, ra, rl, rc, L6, own6, rfl, B6, P6⟩; obtain ⟨_, _, _, _, k0, k1, k2, k3⟩ := P6.it.cells)
            | fail)
          all_goals go_wp2_with fail
          all_goals go_meet
          all_goals exact ⟨rfl, g6, L6, ra, rl, rc, own6, ⟨by have := B6.it; omega⟩, ⟨P6.it.write2⟩⟩
        · have e1 : decide (j < M) = false := decide_eq_false h1
          go_wp2_with fail
          go_meet
          case rel => exact ⟨rfl, g2, L2, ua, ml, uc, own, ⟨by omega⟩, P⟩
      case rest =>
      clear P hgj2
      obtain ⟨rfl, g2, L2, qa, ql, qc, own, hgj2, P⟩ := hcut
      generalize wc = wr at P ⊢
      by_cases h1 : j < N
      · have e1 : decide ((j : Int) ≥ N) = false := decide_eq_false (by omega)
        have e1' : ¬ (N : Int) ≤ j := by omega
        have e1'' : (j : Int) < N := by omega
        obtain ⟨z, hz⟩ : ∃ z, zs[j]? = some z := ⟨_, List.getElem?_eq_getElem (by rw [HN.it]; exact h1)⟩
        obtain ⟨b, o, rfl, x0, x1, x2, x3, x4, hpw, hhw⟩ := op22_cells HZ.it hz
        obtain ⟨kd, ⟨xc, xl, xd⟩, hh⟩ := z
        simp only at x0 x1 x2 x3 x4 hpw hhw
        have OQ : Aside (OpAt w1 b (o + j * 5) kd xc xl xd hh) := ⟨OpAt.later ⟨World.block_lt_of_cell? w _ x0, x0, x1, x2, x3, x4⟩ K1.it⟩
        have Pd := Aside.mk (P.it.quiet (Keeps.refl _ _).drew)
        obtain ⟨c0, c1, _, _, _, _, _, _⟩ := Pd.it.cells
        have hg31 : g < 2147483648 := by omega
        clear hz x0 x1 x2 x3 x4 P
        go_upto_region 14 with fail
        obtain ⟨o0, o1, o2, o3, o4⟩ := Pd.it.op OQ.it
        go_cut [10] from 55 to 117 (fun vo wx => vo = .bool true ∧ ∃ (g6 : Nat) (L6 : Hl) (ra : Option Addr) (rl rc : Nat) (own6 : Nat → Nat), Aside (g6 ≤ j + 1) ∧ Aside (Po A w1 own6 wx p g6 L6 (.slice ra rl rc) wb g6 (.slice ra rl rc) p2 g2 L2 (.slice qa ql qc) xb g2 (.slice qa ql qc) []))
        case first =>
          go_region_with (first
            | (go_at_call 10; with_reducible refine (po_step1 Pd hpw hhw hg31).mono ?_; rintro e w6 ⟨g6, ra, rl, rc, L6, own6, rfl, B6, P6⟩; obtain ⟨k0, k1, k2, k3, _⟩ := P6.it.cells)
            | fail)
          all_goals go_wp2_with fail
          all_goals go_meet
          all_goals exact ⟨rfl, g6, L6, ra, rl, rc, own6, ⟨by have := B6.it; omega⟩, ⟨P6.it.write1⟩⟩
        case rest =>
        clear Pd c0 c1 o0 o1 o2 o3 o4 hgj hg31
        obtain ⟨rfl, g6, L6, ra, rl, rc, own6, hgj, P⟩ := hcut
        generalize wc = wr at P ⊢
        obtain ⟨o0, o1, o2, o3, o4⟩ := P.it.op OQ.it
        go_upto_region 15 with fail
        go_quiet (fail)
        have P1 := Aside.mk (P.it.quiet ((Keeps.refl _ _).drewN nq))
        clear P o0 o1 o2 o3 o4
        generalize wr.drewN nq = w2 at P1 ⊢
        obtain ⟨c0, c1, _, _, _, _, _, _⟩ := P1.it.cells
        have LU : Aside ((honL L6 xc xl).length ≤ 2147483648) := ⟨Nat.le_trans (hon_len _ _ _) (Nat.le_trans P1.it.t.t.ok.len P1.it.t.t.ok.m)⟩
        have DN := Aside.mk (po_don (G := g6) P1 xc xl 24 (by decide))
        go_upto_region 17 with (go_at_call 19; refine DN.it.mono ?_; rintro e w3 ⟨want, own7, rfl, P2⟩)
        have OA := Aside.mk (po_on P2 xc xl 21 (by decide))
        clear DN P1 c0 c1
        go_upto_region 18 with (first
          | (go_at_call 18; refine OB.it.mono ?_; rintro e w5 ⟨rb, own9, rfl, P4⟩)
          | (go_at_call 18; refine OA.it.mono ?_; rintro e w4 ⟨ra1, own8, rfl, P3⟩; have OB := Aside.mk (po_on P3 xc xl 22 (by decide))))
        have WA := Aside.mk (po_wipe P4 (-77) (.tail _ (.head _)) LU.it [(22, rb, honL L6 xc xl), (24, want, honL L6 xc xl)] (fun y hy => by
          rcases List.mem_cons.1 hy with rfl | hy
          · exact ⟨.head _, by simp⟩
          · rcases List.mem_cons.1 hy with rfl | hy
            · exact ⟨.tail _ (.tail _ (.head _)), by simp⟩
            · cases hy))
        clear OA P2 P3
        go_upto_region 19 with (go_at_call 20; refine WA.it.mono ?_; rintro e w6 ⟨rfl, P5⟩)
        have SA := Aside.mk (po_same P5 (.head _) (.tail _ (.head _)))
        clear WA P4
        go_upto_region 21 with (go_at_call 21; refine SA.it.mono ?_; rintro e w7 ⟨rfl, P6⟩)
        have OC := Aside.mk (po_on P6 xc xl 23 (by decide))
        clear SA P5
        go_upto_region 22 with (go_at_call 18; refine OC.it.mono ?_; rintro e w8 ⟨rd, own10, rfl, P7⟩)
        have WB := Aside.mk (po_wipe P7 (-78) (.tail _ (.head _)) LU.it [(23, rd, honL L6 xc xl), (24, want, honL L6 xc xl)] (fun y hy => by
          rcases List.mem_cons.1 hy with rfl | hy
          · exact ⟨.head _, by simp⟩
          · rcases List.mem_cons.1 hy with rfl | hy
            · exact ⟨.tail _ (.tail _ (.head _)), by simp⟩
            · cases hy))
        clear OC P6
        go_upto_region 23 with (go_at_call 20; refine WB.it.mono ?_; rintro e w9 ⟨rfl, P8⟩)
        have SB := Aside.mk (po_same P8 (.head _) (.tail _ (.head _)))
        clear WB P7
        go_wp2_with (first
          | (go_at_call 21; refine SC.it.mono ?_; rintro e w12 ⟨rfl, P11⟩)
          | (go_at_call 18; refine OD.it.mono ?_; rintro e w11 ⟨re, own11, rfl, P10⟩; have SC := Aside.mk (po_same P10 (.head _) (.tail _ (.tail _ (.head _)))))
          | (go_at_call 21; refine SB.it.mono ?_; rintro e w10 ⟨rfl, P9⟩; have OD := Aside.mk (po_on P9 xc xl 25 (by decide)))
          | fail)
        go_roundw
        case rel => exact ⟨j + 1, g6, g2, L6, L2, _, _, own11, by go_num, by omega, hgj.it, hgj2.it, ⟨P11.it.none⟩⟩
        case measure => simp [natOf22]; omega
      · have e1 : decide ((j : Int) ≥ N) = true := decide_eq_true (by omega)
        have e1' : (N : Int) ≤ j := by omega
        go_wp2_with fail
        go_roundw
        case rel => exact ⟨j + 1, g, g2, L, L2, _, _, own, by go_num, by omega, by omega, hgj2.it, P⟩
        case measure => simp [natOf22]; omega
end Go.Proofs.YtjloedcikcamkaaDoor
