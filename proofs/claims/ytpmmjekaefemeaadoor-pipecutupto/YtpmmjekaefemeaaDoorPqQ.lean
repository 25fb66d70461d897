/-
  culvertlaw19.PipeCut
-/
import Derived.Test.YtpmmjekaefemeaaDoorPqI
import Derived.Deep.DeepCutAuto
import Derived.Deep.RegionWith
namespace Go.Proofs.YtpmmjekaefemeaaDoor
open Go.RowKit

set_option maxRecDepth 20000 in
set_option maxHeartbeats 4000000 in
theorem pipeCut_walkU {A : Nat → Addr} (s : Value) (zs : List OpV19) (t : Value) (ys : List OpV19) (w : World) (hs : Sents 93 codeVars A w) (hz : Ops19ArgU w s zs) (hy : Ops19ArgU w t ys) :
    Calls Tryd.prog 5 #[s, t] w fun e w' => e = .returned (.bool true) ∧ Below w.heap.size w w' := by
  obtain ⟨hy20, hy⟩ := hy
  have HY := Aside.mk hy
  obtain ⟨a2, c2, rfl, hyc, _, _⟩ := hy
  obtain ⟨M, hM⟩ : ∃ M, ys.length = M := ⟨_, rfl⟩
  have HM := Aside.mk hM
  rw [hM] at hyc hy20 ⊢
  have hMm : (M : Int) ≤ 1048576 := by omega
  clear hM
  obtain ⟨hz20, hz⟩ := hz
  have HZ := Aside.mk hz
  obtain ⟨a, c, rfl, hzc, hcm, _⟩ := hz
  obtain ⟨N, hN⟩ : ∃ N, zs.length = N := ⟨_, rfl⟩
  have HN := Aside.mk hN
  rw [hN] at hzc hz20 ⊢
  have WK := Aside.mk (wakes19 w)
  have HS := Aside.mk hs
  have hNm : (N : Int) ≤ 1048576 := by omega
  clear hs hN
  go_enter Tryd.func5, Tryd.ntmps5
  go_upto_region 3 with (go_at_call 8; refine WK.it.mono ?_; rintro e w1 ⟨rfl, K1⟩)
  clear WK
  have NW := Aside.mk (new19 w1 (fun _ => 0) 10)
  go_upto_region 4 with (go_at_call 9; refine NW.it.mono ?_; clear NW; rintro e w2 ⟨p, own2, rfl, X2⟩)
  obtain ⟨wb, hwb⟩ : ∃ wb, w2.heap.size = wb := ⟨_, rfl⟩
  obtain ⟨own4, P4⟩ : ∃ own4, Aside (Pz A w own4 (w2.alloc (dzc (.slice none 0 0) 0 false)) 10 p (.slice none 0 0) [] 0 false wb (.slice none 0 0) 0 false []) := by
    have G1 := (OnG.start HS.it).sn (I := fun _ => False) (Sn.same K1.it) (fun x => x)
    have s3 : Sn (fun _ => False) own2 w2 (give own2 w2.heap.size 8) (w2.alloc (dzc (.slice none 0 0) 0 false)) := Sn.quiet ((Keeps.refl _ _).alloc _) 8
    exact ⟨_, ⟨(G1.sn X2.it.2 (fun x => x)).sn s3 (fun x => x), ⟨X2.it.1.sn s3 (fun x => x) (fun x => x) (fun x => x), ⟨(RowB.nil own2 0 _).rd, fun g hg => by simp [Value.ownBlock] at hg⟩, Nat.le_refl _⟩, ⟨by rw [← hwb]; exact Cells.new w2 _ _, give_new (by rw [← hwb]; exact Nat.le_refl _)⟩, fun y hy => by cases hy⟩⟩
  go_upto_region 5 with fail
  clear hwb X2
  generalize (w2.alloc (dzc (.slice none 0 0) 0 false)) = W4 at P4 ⊢
  go_wp2_with fail
  go_loopw [7] (fun iv wr => ∃ (j : Nat) (v : Value) (ALL : List Int) (G : Nat) (cut : Bool) (own : Nat → Nat), iv = .int .i64 j ∧ j ≤ N ∧ Aside (ALL.length ≤ j * 1048576) ∧ Aside (Pz A w own wr 10 p v ALL G cut wb v G cut [])) (fun iv _ => N - natOf iv)
  case atStart => exact ⟨0, _, [], 0, false, own4, rfl, Nat.zero_le _, ⟨Nat.zero_le _⟩, P4⟩
  case round =>
    clear P4
    obtain ⟨j, v, ALL, G, cut, own, rfl, hj, hA, P⟩ := hrel
    obtain ⟨va, vc, hvv⟩ := P.it.t.slc
    subst hvv
    obtain ⟨nl, hnl⟩ : ∃ nl, ALL.length = nl := ⟨_, rfl⟩
    have HNL := Aside.mk hnl
    rw [hnl] at P
    clear hnl
    rcases Nat.eq_or_lt_of_le hj with rfl | hlt
    · have hU : Aside ((und ALL G cut).length ≤ 2199023255551) := ⟨by have := und_le (ALL := ALL) (G := G) (cut := cut); have := hA.it; omega⟩
      obtain ⟨U, hUU⟩ : ∃ U, und ALL G cut = U := ⟨_, rfl⟩
      have hc0 : cut = true → U.length = 0 := fun e => by rw [← hUU, e]; rfl
      have T0 := Aside.mk P.it.t.t
      have G0 := Aside.mk P.it.g
      rw [hUU] at T0 hU
      obtain ⟨u, hu⟩ : ∃ u, U.length = u := ⟨_, rfl⟩
      have HU := Aside.mk hu
      rw [hu] at hc0
      have L0 := Aside.mk (len19 T0.it hU.it)
      rw [hu] at L0
      clear hUU hu P hj
      go_upto_region 10 with (first
        | (go_at_call 16; refine (broken19 T1.it).mono ?_; rintro e w7 ⟨rfl, hw7⟩; subst hw7)
        | (go_at_call 15; refine (passed19 T1.it).mono ?_; rintro e w6 ⟨rfl, hw6⟩; subst hw6)
        | (go_at_call 13; refine L0.it.mono ?_; clear L0; rintro e w5 ⟨rfl, K5⟩; have T1 := Aside.mk (T0.it.quiet K5.it))
        | fail)
      have G1 := Aside.mk (G0.it.quiet K5.it)
      have C1 := Aside.mk (cut19 T1.it hU.it)
      rw [HU.it] at C1
      go_upto_region 11 with (first
        | (go_at_call 17; refine C1.it.mono ?_; clear C1; rintro e w8 ⟨rfl, X8⟩)
        | fail)
      have T8 := Aside.mk X8.it.1
      have G8 := Aside.mk (G1.it.sn X8.it.2 (by decide))
      clear X8 T0 T1 G0 G1
      have e1 : ((u : Int) != u) = false := by simp
      have hc1 : cut = true → ((u : Int) != 0) = false := fun e => by rw [hc0 e]; rfl
      go_cut [52] (fun bv wx => bv = .bool false ∧ wx = w8)
      case first =>
        cases cut
        · clear hc0 hc1
          go_wp2_with fail
          go_meet
          case rel => exact ⟨rfl, rfl⟩
        · have e2 := hc1 rfl
          clear hc0 hc1
          go_wp2_with fail
          go_meet
          case rel => exact ⟨rfl, rfl⟩
      case rest =>
      obtain ⟨rfl, rfl⟩ := hcut
      clear hc0 hc1 e1
      go_upto_region 13 with fail
      go_wp2_with fail
      go_loopw [12, 13, 14] (fun iv _ _ wr => ∃ (q : Nat) (own : Nat → Nat), iv = .int .i64 q ∧ q ≤ M ∧ Aside (OnG A w own wr ∧ PpO own 10 wr p [] G true)) (fun iv _ _ _ => M - natOf iv)
      case atStart => exact ⟨0, own, rfl, Nat.zero_le _, ⟨G8.it, T8.it⟩⟩
      case round =>
        clear G8 T8
        obtain ⟨q, ow, rfl, hq, X⟩ := hrel
        rcases Nat.eq_or_lt_of_le hq with rfl | hlt
        · go_wp2_with (first
            | (go_at_call 16; refine (broken19 X.it.2).mono ?_; rintro e w7 ⟨rfl, hw7⟩; subst hw7)
            | (go_at_call 13; refine (len19 X.it.2 (by decide)).mono ?_; rintro e w5 ⟨rfl, K5⟩)
            | fail)
          go_ret
          exact ⟨rfl, (X.it.1.quiet K5.it).g.bel⟩
        · obtain ⟨z, hz⟩ : ∃ z, ys[q]? = some z := ⟨_, List.getElem?_eq_getElem (by rw [HM.it]; exact hlt)⟩
          have hzw := HY.it
          rw [HM.it] at hzw
          obtain ⟨b, o, rfl, OC, hrd, hnb⟩ := op_cells (by rw [HM.it]; exact hzw) hz
          clear hz hzw
          obtain ⟨kd, sl, ns, n⟩ := z
          simp only at OC hrd hnb
          obtain ⟨sa, sc, hsl⟩ := hrd.shape
          subst hsl
          obtain ⟨B, hB⟩ : ∃ B, ns.length = B := ⟨_, rfl⟩
          have HB := Aside.mk hB
          have CP := Aside.mk (copied19 (hrd.later X.it.1.g.bel) (by omega))
          rw [hB] at OC hnb CP
          have y1 := X.it.1.cell OC.it.2.1
          have i1 : (q : Int) ≤ 9223372036854775806 := by omega
          clear hB hrd
          go_upto_region 17 with (first
            | (go_at_call 12; refine CP.it.mono ?_; clear CP y1; rintro e w4 ⟨ca, cc, rfl, X4⟩; have X5 := Aside.mk (show OnG A w ow w4 ∧ PpO ow 10 w4 p [] G true from ⟨X.it.1.quiet X4.it.k, X.it.2.quiet X4.it.k⟩); have PC := Aside.mk (put_cut19 X5.it.2 (.slice ca B cc) _ (X5.it.1.sents.cell 26 _ rfl)))
            | (go_at_call 11; refine PC.it.mono ?_; clear PC; rintro e w5 ⟨rfl, K5⟩)
            | fail)
          have X6 := Aside.mk (show OnG A w ow w5 ∧ PpO ow 10 w5 p [] G true from ⟨X5.it.1.quiet K5.it, X5.it.2.quiet K5.it⟩)
          have y2 := X6.it.1.cell OC.it.2.2
          have CD := Aside.mk (code_of X6.it.1.sents (Coded.mk 26 27 (by decide) (by decide) rfl))
          have MV := Aside.mk (move_none19 X6.it.2 n (.inr rfl) (by decide))
          clear X X5
          have e1 : ((G : Int) != G) = false := by simp
          go_wp2_with (first
            | (go_at_call 17; refine (cut19 X8.it.2 (by decide)).mono ?_; rintro e w10 ⟨rfl, X10⟩)
            | (go_at_call 16; refine (broken19 X8.it.2).mono ?_; rintro e w9 ⟨rfl, hw9⟩; subst hw9)
            | (go_at_call 15; refine (passed19 X8.it.2).mono ?_; rintro e w8 ⟨rfl, hw8⟩; subst hw8)
            | (go_at_call 13; refine (len19 X7.it.2 (by decide)).mono ?_; rintro e w8 ⟨rfl, K8⟩; have X8 := Aside.mk (show OnG A w ow w8 ∧ PpO ow 10 w8 p [] G true from ⟨X7.it.1.quiet K8.it, X7.it.2.quiet K8.it⟩))
            | (go_at_call 14; refine MV.it.mono ?_; clear MV; rintro e w7 ⟨rfl, K7⟩; have X7 := Aside.mk (show OnG A w ow w7 ∧ PpO ow 10 w7 p [] G true from ⟨X6.it.1.quiet K7.it, X6.it.2.quiet K7.it⟩))
            | (go_at_call 18; refine CD.it.mono ?_; clear CD; rintro e w6 ⟨rfl, hw6⟩; subst hw6)
            | fail)
          go_roundw
          case rel => exact ⟨q + 1, ow, by go_num, by omega, ⟨X8.it.1.sn X10.it.2 (by decide), X10.it.1⟩⟩
          case measure => simp [natOf]; omega
    · obtain ⟨z, hz⟩ : ∃ z, zs[j]? = some z := ⟨_, List.getElem?_eq_getElem (by rw [HN.it]; exact hlt)⟩
      have hzw := HZ.it
      rw [HN.it] at hzw
      obtain ⟨b, o, rfl, OC, hrd, hnb⟩ := op_cells (by rw [HN.it]; exact hzw) hz
      clear hz hzw
      obtain ⟨kd, sl, ns, n⟩ := z
      simp only at OC hrd hnb
      obtain ⟨sa, sc, hsl⟩ := hrd.shape
      subst hsl
      obtain ⟨B, hB⟩ : ∃ B, ns.length = B := ⟨_, rfl⟩
      have HB := Aside.mk hB
      have HRD := Aside.mk hrd
      rw [hB] at OC HRD hnb
      clear hB hrd
      have hm : Aside (ALL.length + ns.length ≤ 2199023255551 ∧ ALL.length + ns.length ≤ (j + 1) * 1048576) := ⟨by have := hA.it; have := HB.it; omega⟩
      have Zd := Aside.mk (P.it.quiet (Keeps.refl _ _).drew)
      have i1 : (j : Int) ≤ 9223372036854775806 := by omega
      clear P
      go_upto_region 8 with fail
      obtain ⟨u0, u1, u2, y0, y1, y2⟩ := Pz.h6 OC Zd
      go_region_with (first
        | (go_at_call 10; with_reducible refine (pz_step (by decide) Zd HRD.it hm.it.1).mono ?_; rintro e w6 ⟨qa, ql, qc, G2, cut2, own6, rfl, X6⟩; obtain ⟨A6, hA6, P6'⟩ := X6.it; have P6 := Aside.mk P6'; clear P6'; obtain ⟨k0, k1, k2, k3, k4, k5⟩ := P6.it.cells)
        | fail)
      all_goals
        have HA6 := Aside.mk hA6
        have P7 := Aside.mk (P6.it.write (by decide))
        clear P6 hA6
        go_wp2_with fail
        go_roundw
        case rel => exact ⟨j + 1, _, A6, G2, cut2, own6, by go_num, by omega, ⟨Nat.le_trans HA6.it hm.it.2⟩, P7⟩
        case measure => simp [natOf]; omega
end Go.Proofs.YtpmmjekaefemeaaDoor
