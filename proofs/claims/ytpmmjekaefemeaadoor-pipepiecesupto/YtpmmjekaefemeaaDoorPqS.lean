/-
  culvertlaw19.PipePieces
-/
import Derived.Test.YtpmmjekaefemeaaDoorPqR
import Derived.Test.YtpmmjekaefemeaaDoorPqI
import Derived.Deep.DeepCutAuto
namespace Go.Proofs.YtpmmjekaefemeaaDoor
open Go.RowKit

set_option maxRecDepth 20000 in
set_option maxHeartbeats 4000000 in
theorem pipePieces_walkU (vb : Value) (BS : List Int) (vp : Value) (ps : List Int) (vm : Value) (ms : List Int) (w : World) (_hs : True) (hb : BytesArgU w vb BS) (hp : IntsArgU w vp ps) (hm : IntsArgU w vm ms) :
    Calls Tryd.prog 4 #[vb, vp, vm] w fun e w' => e = .returned (.bool true) ∧ Below w.heap.size w w' := by
  obtain ⟨hbr, _, hb20⟩ := hb
  obtain ⟨⟨pa, pl, pc, rfl, hpl, hpc⟩, hp20⟩ := hp
  obtain ⟨⟨ma, ml, mc, rfl, hml, hmc⟩, hm20⟩ := hm
  rw [hpl] at hp20
  rw [hml] at hm20
  obtain ⟨ba, bc, rfl⟩ := hbr.shape
  have HB20 := Aside.mk hb20
  have HBR := Aside.mk hbr
  have HPC := Aside.mk hpc
  have HMC := Aside.mk hmc
  obtain ⟨N, hN⟩ : ∃ N, BS.length = N := ⟨_, rfl⟩
  have HN := Aside.mk hN
  rw [hN] at hb20 HBR ⊢
  have hNc : N ≤ bc := by
    obtain ⟨⟨a', c', e, h1, _⟩, _⟩ := hbr
    injection e with _ e2 e3
    rw [bv_length] at h1
    omega
  have WK := Aside.mk (wakes19 w)
  have hPm : (pl : Int) ≤ 1048576 := by omega
  have hMm : (ml : Int) ≤ 1048576 := by omega
  clear hN hpl hml hpc hmc hbr
  go_enter Tryd.func4, Tryd.ntmps4
  go_upto_region 3 with (go_at_call 8; refine WK.it.mono ?_; rintro e w1 ⟨rfl, K1⟩)
  clear WK
  have NW := Aside.mk (new19 w1 (fun _ => 0) 10)
  go_upto_region 4 with (go_at_call 9; refine NW.it.mono ?_; clear NW; rintro e w2 ⟨p, own2, rfl, X2⟩)
  have P2 : Aside (Qw w own2 w2 p BS 0 0 (.slice none 0 0)) := ⟨⟨((show Ground w.heap.size w (fun _ => 0) w from ⟨fun _ _ => rfl, Below.refl _ _, Nat.le_refl _⟩).quiet K1.it).sn X2.it.2 (fun x => x), by simpa using X2.it.1, by simpa using RowB.nil own2 9 w2, by omega⟩⟩
  clear X2
  go_upto_region 6 with fail
  go_wp2_with fail
  go_loopw [8, 9, 10, 11, 12, 13, 14, 15, 16] (fun av tv ov iv _ _ _ _ _ wr => ∃ (j at' tk : Nat) (q : Option Addr) (l c : Nat) (own : Nat → Nat), av = .int .i64 at' ∧ tv = .int .i64 tk ∧ ov = .slice q l c ∧ iv = .int .i64 j ∧ j ≤ max pl ml ∧ Aside (Qw w own wr p BS at' tk (.slice q l c))) (fun _ _ _ iv _ _ _ _ _ _ => max pl ml - natOf iv)
  case atStart => exact ⟨0, 0, 0, _, _, _, own2, rfl, rfl, rfl, rfl, Nat.zero_le _, P2⟩
  case round =>
    clear P2
    obtain ⟨j, at', tk, q, l, c, own, rfl, rfl, rfl, rfl, hj, P⟩ := hrel
    obtain ⟨htk, hat⟩ := P.it.l
    rw [HN.it] at hat
    by_cases hjn : pl ≤ j ∧ ml ≤ j
    · obtain ⟨j1, j2⟩ := hjn
      have j1' : ¬ (j : Int) < pl := by omega
      have j2' : ¬ (j : Int) < ml := by omega
      obtain ⟨H, hH⟩ : ∃ H, Aside (at' - tk = H) := ⟨_, ⟨rfl⟩⟩
      have MV := Aside.mk (qw_move P HB20.it (N : Int) (k := H) (by have := hH.it; omega))
      have eA : Aside (tk + H = at') := ⟨by have := hH.it; omega⟩
      go_upto_region 29 with (first
        | (go_at_call 14; refine MV.it.mono ?_; clear MV; rintro e w6 ⟨ga, gc, own6, rfl, X6⟩)
        | (at_builtin; refine wpList_appendO rfl (.tmp 153) (.tmp 157) rfl (.slice q l c) (.slice ga H gc) (BS.take tk) ((BS.drop tk).take H) X6.it.2.2.2.1 X6.it.1.rd (by have := HB20.it; have := hH.it; rw [List.length_take, List.length_take, List.length_drop]; omega) rfl rfl ?_; intro q7 l7 c7 w7 o7 k7 b7; have Q7 := Aside.mk (Qw.app X6.it.2.1 X6.it.2.2.1 X6.it.2.2.2 (by have := hH.it; have := HN.it; omega) o7.it k7.it b7.it))
        | fail)
      rw [eA.it] at Q7
      clear X6 P
      have i5 : (at' : Int) ≤ bc := by omega
      have i5' : (0 : Int) ≤ at' := by omega
      have eW : IntKind.u64.wrap (at' : Int) = (at' : Int) := by rw [IntKind.wrap_u64]; omega
      have g1 : (0 : Int) ≤ at' := by omega
      have g2 : (at' : Int) ≤ 18446744073709551615 := by omega
      have eB : ((at' : Int) == IntKind.u64.wrap (at' : Int)) = true := by rw [eW]; simp
      obtain ⟨S, hS⟩ : ∃ S, Aside (strOf (BS.take at') = S) := ⟨_, ⟨rfl⟩⟩
      have Qd := Aside.mk (Q7.it.quiet (Keeps.refl _ _).drew)
      clear Q7
      have SS := Aside.mk (fun W (own : Nat → Nat) (h : Aside (Qw w own W p BS at' at' (.slice q7 l7 c7))) => (⟨str_run h.it.o.rd hS, str_run ((HBR.it.later h.it.g.bel).take (k := at') (by rw [HN.it]; exact hat)) hS⟩ : (convert 26 9 (.slice q7 l7 c7)).run Tryd.prog W = .ok (.string S) W ∧ (convert 26 9 (.slice ba at' bc)).run Tryd.prog W = .ok (.string S) W))
      go_region_held_law (fun w' => (convert 26 9 (.slice q7 l7 c7)).run Tryd.prog w' = .ok (.string S) w' ∧ (convert 26 9 (.slice ba at' bc)).run Tryd.prog w' = .ok (.string S) w') (exact SS.it _ _ (by with_reducible assumption)) (first
        | (go_at_call 15; with_reducible refine (qw_passed (by with_reducible assumption)).mono ?_; rintro e w9 ⟨rfl, P9⟩)
        | (go_at_call 13; with_reducible refine (qw_len (by with_reducible assumption) HB20.it).mono ?_; rintro e w8 ⟨rfl, P8⟩; rw [Nat.sub_self])
        | fail)
      all_goals
        go_wp2_with fail
        go_ret
        exact ⟨rfl, P9.it.g.bel⟩
    · have i1 : (j : Int) ≤ 9223372036854775806 := by omega
      have jc : Aside (j + 1 ≤ max pl ml) := ⟨by omega⟩
      have hat' : (at' : Int) ≤ N := by omega
      have htk' : (tk : Int) ≤ at' := by omega
      -- the first test is true
      go_upto_region 7 with fail
      go_cut [29] (fun y wx => y = .bool true ∧ wx = wr)
      case first =>
        by_cases h1 : j < pl
        · have h1' : decide (j < pl) = true := decide_eq_true h1
          go_wp2_with fail
          go_meet
          case rel => exact ⟨rfl, rfl⟩
        · have h1' : decide (j < pl) = false := decide_eq_false h1
          have h2' : decide (j < ml) = true := decide_eq_true (by omega)
          go_wp2_with fail
          go_meet
          case rel => exact ⟨rfl, rfl⟩
      case rest =>
      obtain ⟨rfl, hwr⟩ := hcut
      subst hwr
      generalize wc = wr at P ⊢
      go_upto_if 35 with fail
      go_cut [8, 12, 13, 14] (fun av _ _ _ wx => ∃ (at2 : Nat) (own2 : Nat → Nat), av = .int .i64 at2 ∧ Aside (Qw w own2 wx p BS at2 tk (.slice q l c)))
      case first =>
        by_cases h1 : j < pl
        · obtain ⟨xa, rfl, hx⟩ := HPC.it j h1
          obtain ⟨k0, hk0⟩ : ∃ k0, ps.getD j 0 = k0 := ⟨_, rfl⟩
          rw [hk0] at hx
          have hx' := P.it.g.cellG hx
          have h1' : (j : Int) < pl := by omega
          clear hx hk0
          go_upto_if 41 with fail
          go_cut [12] (fun y wx => ∃ k1 : Int, y = .int .i64 k1 ∧ 0 ≤ k1 ∧ wx = wr)
          case first =>
            by_cases h2 : k0 < 0
            · go_wp2_with fail
              go_meet
              case rel => exact ⟨0, rfl, by omega, rfl⟩
            · have h2' : 0 ≤ k0 := by omega
              go_wp2_with fail
              go_meet
              case rel => exact ⟨k0, rfl, h2', rfl⟩
          case rest =>
          obtain ⟨k1, rfl, hk1, hwr⟩ := hcut
          subst hwr
          generalize wc = wr at P hx' ⊢
          have i3 : (N : Int) - at' = ((N - at' : Nat) : Int) := by omega
          have i4 : ((N - at' : Nat) : Int) ≤ 9223372036854775807 := by omega
          obtain ⟨R, hR⟩ : ∃ R, N - at' = R := ⟨_, rfl⟩
          rw [hR] at i3 i4
          go_upto_if 47 with fail
          go_cut [12] (fun y wx => ∃ k2 : Nat, y = .int .i64 k2 ∧ k2 ≤ R ∧ wx = wr)
          case first =>
            by_cases h2 : (R : Int) < k1
            · go_wp2_with fail
              go_meet
              case rel => exact ⟨R, rfl, by omega, rfl⟩
            · go_wp2_with fail
              go_meet
              case rel => exact ⟨k1.toNat, by rw [Int.toNat_of_nonneg hk1], by omega, rfl⟩
          case rest =>
          obtain ⟨k2, rfl, hk2, hwr⟩ := hcut
          subst hwr
          generalize wc = wr at P hx' ⊢
          clear hx'
          obtain ⟨E, hE⟩ : ∃ E, at' + k2 = E := ⟨_, rfl⟩
          have i5 : (at' : Int) + k2 = (E : Int) := by omega
          have i6 : (at' : Int) ≤ E := by omega
          have i7 : (E : Int) ≤ bc := by omega
          have i8 : E - at' = k2 := by omega
          have i9 : (E : Int) ≤ 9223372036854775807 := by omega
          have hEN : E ≤ N := by omega
          have RD := Aside.mk (RdS.seg (S := Nowhere) (a := at') (n := k2) (HBR.it.later P.it.g.bel) (by rw [HN.it]; omega))
          have CP := Aside.mk (copied19 RD.it (by rw [List.length_take]; omega))
          have hkl : Aside (((BS.drop at').take k2).length = k2) := ⟨by rw [List.length_take, List.length_drop, HN.it]; omega⟩
          rw [hkl.it] at CP
          have HEN := Aside.mk hEN
          have HE := Aside.mk hE
          clear RD hEN hE hk2 hR i3 i4 hk1
          by_cases hbc : bc = at'
          · subst hbc
            rw [if_pos rfl, Nat.sub_self] at CP
            go_upto_region 16 with (first
              | (go_at_call 12; refine CP.it.mono ?_; clear CP; rintro e w4 ⟨ca, cc, rfl, X4⟩; have P4 := Aside.mk (P.it.step X4.it.k 18); have PC := Aside.mk (qw_put P4 HB20.it (k := k2) (by have := HE.it; have := HEN.it; have := HN.it; omega) (OwnB.rd X4.it.row)))
              | (go_at_call 11; refine PC.it.mono ?_; clear PC; rintro e w5 ⟨own5, rfl, P5⟩; rw [HE.it] at P5)
              | fail)
            clear P P4 X4
            have e1 : ((k2 : Int) != k2) = false := by simp
            go_wp2_with fail
            go_meet
            case rel => exact ⟨E, own5, rfl, P5⟩
          · rw [if_neg hbc] at CP
            go_upto_region 16 with (first
              | (go_at_call 12; refine CP.it.mono ?_; clear CP; rintro e w4 ⟨ca, cc, rfl, X4⟩; have P4 := Aside.mk (P.it.step X4.it.k 18); have PC := Aside.mk (qw_put P4 HB20.it (k := k2) (by have := HE.it; have := HEN.it; have := HN.it; omega) (OwnB.rd X4.it.row)))
              | (go_at_call 11; refine PC.it.mono ?_; clear PC; rintro e w5 ⟨own5, rfl, P5⟩; rw [HE.it] at P5)
              | fail)
            clear P P4 X4
            have e1 : ((k2 : Int) != k2) = false := by simp
            go_wp2_with fail
            go_meet
            case rel => exact ⟨E, own5, rfl, P5⟩
        · have h1' : ¬ (j : Int) < pl := by omega
          go_wp2_with fail
          go_meet
          case rel => exact ⟨at', own, rfl, P⟩
      case rest =>
      obtain ⟨at2, own2, rfl, P2⟩ := hcut
      clear P htk hat hat' htk'
      generalize wc = wr at P2 ⊢
      obtain ⟨htk, hat⟩ := P2.it.l
      rw [HN.it] at hat
      obtain ⟨H, hH⟩ : ∃ H, Aside (at2 - tk = H) := ⟨_, ⟨rfl⟩⟩
      go_upto_if 77 with fail
      go_cut [9, 10, 15, 16] (fun tv ov _ _ wx => ∃ (tk2 : Nat) (q2 : Option Addr) (l2 c2 : Nat) (own3 : Nat → Nat), tv = .int .i64 tk2 ∧ ov = .slice q2 l2 c2 ∧ Aside (Qw w own3 wx p BS at2 tk2 (.slice q2 l2 c2)))
      case first =>
        by_cases h1 : j < ml
        · obtain ⟨xa, rfl, hx⟩ := HMC.it j h1
          obtain ⟨mv, hmv⟩ : ∃ mv, ms.getD j 0 = mv := ⟨_, rfl⟩
          rw [hmv] at hx
          have hx' := P2.it.g.cellG hx
          have h1' : (j : Int) < ml := by omega
          clear hmv
          by_cases hm0 : mv ≤ 0
          · have LN := Aside.mk (qw_len P2 HB20.it)
            rw [hH.it] at LN
            go_upto_region 22 with (first
              | (go_at_call 13; refine LN.it.mono ?_; clear LN; rintro e w5 ⟨rfl, P5⟩; clear hx'; have hx5 := P5.it.g.cellG hx; have MV := Aside.mk (qw_move P5 HB20.it mv (k := 0) (by rw [hH.it]; omega)))
              | (go_at_call 14; refine MV.it.mono ?_; clear MV hx5; rintro e w6 ⟨ga, gc, own6, rfl, X6⟩; have hx6 := X6.it.2.1.cellG hx)
              | fail)
            go_cut [128] (fun y wx => y = .bool false ∧ wx = w6)
            case first =>
              have t1 : ¬ (H : Int) < 0 := by omega
              by_cases t2 : H = 0
              · subst t2
                go_wp2_with fail
                all_goals
                  go_meet
                  case rel => exact ⟨rfl, rfl⟩
              · have t3 : (0 : Int) < H := by omega
                have t4 : ¬ (0 : Int) < mv := by omega
                go_wp2_with fail
                all_goals
                  go_meet
                  case rel => exact ⟨rfl, rfl⟩
            case rest =>
            obtain ⟨rfl, hwr⟩ := hcut
            subst hwr
            clear hx6
            go_wp2_with (first
              | (at_builtin; refine wpList_appendO rfl (.tmp 129) (.tmp 130) rfl (.slice q l c) (.slice ga 0 gc) (BS.take tk) ((BS.drop tk).take 0) X6.it.2.2.2.1 X6.it.1.rd (by have := HB20.it; have := hH.it; rw [List.length_take, List.length_take, List.length_drop]; omega) rfl rfl ?_; intro q7 l7 c7 w7 o7 k7 b7)
              | fail)
            go_meet
            case rel => exact ⟨tk + 0, q7, l7, c7, _, by simp, rfl, ⟨Qw.app X6.it.2.1 X6.it.2.2.1 X6.it.2.2.2 (by have := hH.it; have := HN.it; omega) o7.it k7.it b7.it⟩⟩
          · have hm1 : 0 < mv := by omega
            obtain ⟨K, hK⟩ : ∃ K, min mv.toNat H = K := ⟨_, rfl⟩
            have hKH : K ≤ H := by omega
            obtain ⟨T2, hT2⟩ : ∃ T2, Aside (tk + K = T2) := ⟨_, ⟨rfl⟩⟩
            have i5 : (tk : Int) + K = (T2 : Int) := by have := hT2.it; omega
            have i6 : (T2 : Int) ≤ 9223372036854775807 := by have := hT2.it; have := hH.it; omega
            have HK := Aside.mk hK
            clear hK
            have LN := Aside.mk (qw_len P2 HB20.it)
            rw [hH.it] at LN
            go_upto_region 22 with (first
              | (go_at_call 13; refine LN.it.mono ?_; clear LN; rintro e w5 ⟨rfl, P5⟩; clear hx'; have hx5 := P5.it.g.cellG hx; have MV := Aside.mk (qw_move P5 HB20.it mv (k := K) (by rw [hH.it]; exact HK.it.symm)))
              | (go_at_call 14; refine MV.it.mono ?_; clear MV hx5; rintro e w6 ⟨ga, gc, own6, rfl, X6⟩; have hx6 := X6.it.2.1.cellG hx)
              | fail)
            go_cut [128] (fun y wx => y = .bool false ∧ wx = w6)
            case first =>
              have t1 : ¬ (H : Int) < K := by omega
              have t1' : decide (H < K) = false := decide_eq_false (by omega)
              have t5 : ¬ mv < 0 := by omega
              by_cases t2 : K < H
              · have t3 : ¬ (K : Int) < mv := by have := HK.it; omega
                go_wp2_with fail
                all_goals
                  go_meet
                  case rel => exact ⟨rfl, rfl⟩
              · go_wp2_with fail
                all_goals
                  go_meet
                  case rel => exact ⟨rfl, rfl⟩
            case rest =>
            obtain ⟨rfl, hwr⟩ := hcut
            subst hwr
            clear hx6
            go_wp2_with (first
              | (at_builtin; refine wpList_appendO rfl (.tmp 129) (.tmp 130) rfl (.slice q l c) (.slice ga K gc) (BS.take tk) ((BS.drop tk).take K) X6.it.2.2.2.1 X6.it.1.rd (by have := HB20.it; have := hH.it; rw [List.length_take, List.length_take, List.length_drop]; omega) rfl rfl ?_; intro q7 l7 c7 w7 o7 k7 b7)
              | fail)
            go_meet
            case rel => exact ⟨T2, q7, l7, c7, _, rfl, rfl, ⟨by rw [← hT2.it]; exact Qw.app X6.it.2.1 X6.it.2.2.1 X6.it.2.2.2 (by have := hH.it; have := HN.it; omega) o7.it k7.it b7.it⟩⟩
        · have h1' : ¬ (j : Int) < ml := by omega
          go_wp2_with fail
          go_meet
          case rel => exact ⟨tk, q, l, c, own2, rfl, rfl, P2⟩
      case rest =>
      obtain ⟨tk2, q2, l2, c2, own3, rfl, rfl, P3⟩ := hcut
      clear P2
      generalize wc = wr at P3 ⊢
      clear htk hat
      obtain ⟨htk, hat⟩ := P3.it.l
      rw [HN.it] at hat
      obtain ⟨D, hD⟩ : ∃ D, Aside (at2 - tk2 = D) := ⟨_, ⟨rfl⟩⟩
      have i5 : (at2 : Int) - tk2 = (D : Int) := by have := hD.it; omega
      have i6 : (D : Int) ≤ 9223372036854775807 := by have := hD.it; omega
      have eW : IntKind.u64.wrap (tk2 : Int) = (tk2 : Int) := by rw [IntKind.wrap_u64]; omega
      have g1 : (0 : Int) ≤ tk2 := by omega
      have g2 : (tk2 : Int) ≤ 18446744073709551615 := by omega
      have eB : ((tk2 : Int) != IntKind.u64.wrap (tk2 : Int)) = false := by rw [eW]; simp
      have eD : ((D : Int) != (D : Int)) = false := by simp
      have eT : ((tk2 : Int) != (tk2 : Int)) = false := by simp
      have LN := Aside.mk (qw_len P3 HB20.it)
      rw [hD.it] at LN
      go_wp2_with (first
        | (go_at_call 16; refine (qw_broken P6).mono ?_; rintro e w7 ⟨rfl, P7⟩)
        | (go_at_call 15; refine (qw_passed P5).mono ?_; rintro e w6 ⟨rfl, P6⟩)
        | (go_at_call 13; refine LN.it.mono ?_; clear LN; rintro e w5 ⟨rfl, P5⟩)
        | fail)
      go_roundw
      case rel => exact ⟨j + 1, at2, tk2, q2, l2, c2, own3, rfl, rfl, rfl, by go_num, jc.it, P7⟩
      case measure => have := jc.it; simp only [natOf]; omega
end Go.Proofs.YtpmmjekaefemeaaDoor
