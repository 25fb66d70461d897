/-
  IdsMarks, walked
-/
import Derived.Test.YthfedcebbnlmaaaDoorIdK
namespace Go.Proofs.YthfedcebbnlmaaaDoor
open Go.RowKit

set_option maxRecDepth 20000 in
set_option maxHeartbeats 40000000 in
theorem idsMarks_walk {A : Nat → Addr} (v1 : Value) (ww : WhoseV) (v2 : Value) (zs : List OpV14) (w : World) (hs : St14 A w) (hz : WhoseArg w v1 ww) (hz2 : Ops14Arg w v2 zs) :
    Calls Tryd.prog 7 #[v1, v2] w fun e w' => e = .returned (.bool true) ∧ Below w.heap.size w w' := by
  obtain ⟨c, nn, s⟩ := ww
  obtain ⟨rfl, _⟩ := hz
  obtain ⟨sa, sc, rfl, hlc, hmx, hat⟩ := hz2
  obtain ⟨M, hM⟩ : ∃ M, Aside (M = zs.length) := ⟨_, ⟨rfl⟩⟩
  rw [← hM.it] at hlc ⊢
  have G0 := IdW.start hs
  have HAT := Aside.mk hat
  have hM63 : (M : Int) ≤ 9223372036854775807 := by
    have : sc ≤ 9223372036854775807 := hmx
    omega
  clear hs hat hmx
  simp only
  go_enter Tryd.func7, Tryd.ntmps7
  go_upto_region 1 with fail
  obtain ⟨W0, hW0⟩ : ∃ W0, W0 = w.alloc (.cells #[.bool c, .bool nn, .int .i64 s] 34) := ⟨_, rfl⟩
  obtain ⟨own0, P0⟩ : ∃ own0, Aside (IdW A w [(w.heap.size, 34, [.bool c, .bool nn, .int .i64 s])] [] own0 W0) := ⟨_, by rw [hW0]; exact IdW.box G0 _ _⟩
  rw [← hW0]
  obtain ⟨bx, hb⟩ : ∃ bx, Aside (bx = w.heap.size) := ⟨_, ⟨rfl⟩⟩
  rw [← hb.it] at P0 ⊢
  clear hW0 G0
  have F := Aside.mk (fixed14 (IdW.st P0))
  go_upto_region 3 with (first | (go_at_call 12; refine F.it.mono ?_; rintro e w1 ⟨rfl, b1⟩) | fail)
  have P1 := IdW.quiet P0 (Keeps.ofBelow b1.it)
  clear F P0 b1
  have r0 := IdW.cell P1 0
  have r1 := IdW.cell P1 1
  have r2 := IdW.cell P1 2
  simp only [List.getElem?_cons_zero, List.getElem?_cons_succ] at r0 r1 r2
  have BG := Aside.mk (begin14 P1 c nn s (fun x hx => by rw [List.mem_singleton.1 hx]; show (34 : Nat) ≠ 37; decide))
  go_upto_region 7 with (first | (go_at_call 13; refine BG.it.mono ?_; rintro e w2 ⟨z0, own2, rfl, P2⟩) | fail)
  obtain ⟨pv, hpv⟩ : ∃ pv, zv z0 = pv := ⟨_, rfl⟩
  have Q2 : Aside (Iz A w [] pv z0 own2 w2) := ⟨⟨IdW.less P2, hpv⟩⟩
  rw [hpv]
  clear hpv P2 P1 BG r0 r1 r2
  obtain ⟨w3, hw3⟩ : ∃ w3, w3 = w2.alloc (.cells #[.int .i64 (zf z0), .int .i64 (zb z0), .int .i64 (zn z0), .int .i64 (zM z0), .int .i64 (zT z0)] 37) := ⟨_, rfl⟩
  obtain ⟨own3, P3⟩ : ∃ own3, Aside (Iz A w [] pv z0 own3 w3) := ⟨_, by rw [hw3]; exact Iz.sub (Iz.box Q2 _ _) (fun x hx => by cases hx)⟩
  rw [← hw3]
  clear hw3 Q2
  go_loopw [32] (fun iv wr => ∃ (k : Nat) (own : Nat → Nat) (z : Option (Nat × Im)), iv = .int .i64 k ∧ k ≤ M ∧ Aside (Iz A w [] pv z own wr)) (fun iv _ => M - (intOf iv).toNat)
  case atStart => exact ⟨0, own3, z0, rfl, Nat.zero_le _, P3⟩
  case round =>
    clear P3
    obtain ⟨k, own, z, rfl, hk, HP⟩ := hrel
    rcases Nat.eq_or_lt_of_le hk with rfl | hlt
    · go_wp2_with fail
      all_goals first
        | (exfalso; omega)
        | skip
      go_ret
      exact ⟨rfl, Iz.bel HP⟩
    · obtain ⟨kind, id, sb, so, ⟨i0, i1⟩, rfl, _, r0, r1⟩ := Ops14.read HAT.it k (by rw [← hM.it]; exact hlt)
      replace r0 := HP.it.it.it.g.g.cell rfl r0
      replace r1 := HP.it.it.it.g.g.cell rfl r1
      have i2 : (k : Int) < M := by omega
      have i3 : (0 : Int) ≤ k := by omega
      have i4 : (k : Int) ≤ 9223372036854775806 := by omega
      go_upto_region 9 with fail
      obtain ⟨w4, hw4⟩ : ∃ w4, w4 = wr.alloc (.cells #[.int .i64 kind, .int .u32 id] 41) := ⟨_, rfl⟩
      obtain ⟨own4, P4⟩ : ∃ own4, Aside (Iz A w [(wr.heap.size, 41, [.int .i64 kind, .int .u32 id])] pv z own4 w4) := ⟨_, by rw [hw4]; exact Iz.box HP _ _⟩
      rw [← hw4]
      obtain ⟨bo, hbo⟩ : ∃ bo, Aside (bo = wr.heap.size) := ⟨_, ⟨rfl⟩⟩
      rw [← hbo.it] at P4 ⊢
      clear hw4 hbo HP r0 r1 hk
      have mb := Aside.mk (zM_le (Iz.ok P4))
      have tb := Aside.mk (zT_le (Iz.ok P4))
      obtain ⟨ma, hma⟩ : ∃ ma, zM z = ma := ⟨_, rfl⟩
      obtain ⟨ta, hta⟩ : ∃ ta, zT z = ta := ⟨_, rfl⟩
      obtain ⟨la, hla⟩ : ∃ la, zLeft z = la := ⟨_, rfl⟩
      obtain ⟨ka, hka⟩ : ∃ ka, zKnown z id = ka := ⟨_, rfl⟩
      have MK := Aside.mk (iz_marks P4)
      have LF := Aside.mk (fun W (h : Aside (Iz A w [(bo, 41, [.int .i64 kind, .int .u32 id])] pv z own4 W)) => iz_left h)
      have KN := Aside.mk (fun W (h : Aside (Iz A w [(bo, 41, [.int .i64 kind, .int .u32 id])] pv z own4 W)) => iz_known h id i0)
      rw [hma, hta] at MK
      simp only [hla] at LF
      simp only [hka] at KN
      have HMA := Aside.mk hma
      have HTA := Aside.mk hta
      have HLA := Aside.mk hla
      have HKA := Aside.mk hka
      clear hma hta hla hka
      go_upto_region 11 with (first
        | (go_at_call 23; refine MK.it.mono ?_; rintro e w5 ⟨rfl, P5⟩)
        | (go_at_call 10; refine (LF.it _ P5).mono ?_; rintro e w6 ⟨rfl, P6⟩)
        | fail)
      obtain ⟨o0, o1⟩ := Iz.op1 P6
      go_upto_region 12 with (first
        | (go_at_call 19; refine (KN.it _ P6).mono ?_; rintro e w7 ⟨rfl, P7⟩)
        | fail)
      clear o0 o1 P4 P5 P6 MK LF KN
      obtain ⟨o0, o1⟩ := Iz.op1 P7
      go_upto_block 2 with fail
      go_cut [14] (fun ev wx => ∃ (y : Option (Nat × Im)) (own : Nat → Nat) (kk : Int), Hid (Coded A ev kk) ∧ Aside (kk ≠ 0 → y = z) ∧ Aside (MonZ z y) ∧ Aside (Iz A w [(bo, 41, [.int .i64 kind, .int .u32 id])] pv y own wx))
      case first =>
        by_cases k0 : kind = 0
        · subst k0
          go_wp2_with (first | (go_at_call 11; refine (iz_next P7).mono ?_; rintro e w8 ⟨v, rfl, hv, P8⟩) | fail)
          go_meet
          case rel => exact ⟨_, _, _, hv, ⟨zNext_no⟩, ⟨MonZ.next (Iz.ok P7)⟩, P8⟩
        by_cases k1 : kind = 1
        · subst k1
          go_wp2_with (first | (go_at_call 16; refine (iz_sent P7 id i0 i1).mono ?_; rintro e w8 ⟨v, rfl, hv, P8⟩) | fail)
          go_meet
          case rel => exact ⟨_, _, _, hv, ⟨zSent_no⟩, ⟨MonZ.sent (Iz.ok P7) id⟩, P8⟩
        by_cases k2 : kind = 2
        · subst k2
          go_wp2_with (first | (go_at_call 18; refine (iz_hear P7 id i0 i1).mono ?_; rintro e w8 ⟨v, rfl, hv, P8⟩) | fail)
          go_meet
          case rel => exact ⟨_, _, _, hv, ⟨zHear_no⟩, ⟨MonZ.hear (Iz.ok P7) id⟩, P8⟩
        · go_wp2_with fail
          go_meet
          case rel => exact ⟨z, own4, 0, hide .none, ⟨fun h => absurd rfl h⟩, ⟨MonZ.refl z⟩, P7⟩
      case rest =>
        obtain ⟨y, own5, kk, hv, HE, MZ, P8⟩ := hcut
        clear P7 o0 o1
        have mb' := Aside.mk (zM_le (Iz.ok P8))
        have tb' := Aside.mk (zT_le (Iz.ok P8))
        obtain ⟨mc, hmc⟩ : ∃ mc, zM y = mc := ⟨_, rfl⟩
        obtain ⟨tc, htc⟩ : ∃ tc, zT y = tc := ⟨_, rfl⟩
        have f1 : ¬ mc < ma := by have := MZ.it.m; rw [HMA.it] at this; omega
        have f2 : ¬ tc < ta := by have := MZ.it.t; rw [HTA.it] at this; omega
        have MK := Aside.mk (iz_marks P8)
        rw [hmc, htc] at MK
        have HMC := Aside.mk hmc
        have HTC := Aside.mk htc
        clear hmc htc
        go_upto_region 21 with (first
          | (go_at_call 23; refine MK.it.mono ?_; rintro e w9 ⟨rfl, P9⟩)
          | fail)
        clear MK P8
        obtain ⟨o0, o1⟩ := Iz.op1 P9
        go_cut [111] (fun v wx => v = .bool false ∧ Aside (Iz A w [(bo, 41, [.int .i64 kind, .int .u32 id])] pv y own5 wx))
        case first =>
          by_cases hkk : kk = 0
          · rw [hkk] at hv
            have e := hv.out.zero
            subst e
            clear hkk hv HE
            cases ka
            · go_wp2_with fail
              go_meet
              case rel => exact ⟨by simp; omega, P9⟩
            · have KN := Aside.mk (iz_known P9 id i0)
              rw [MZ.it.kn id HKA.it] at KN
              go_wp2_with (first | (go_at_call 19; refine KN.it.mono ?_; rintro e wa ⟨rfl, Pa⟩) | fail)
              go_meet
              case rel => exact ⟨by simp; omega, Pa⟩
          · obtain ⟨ad, e⟩ := hv.out.pos hkk
            subst e
            have e := HE.it hkk
            subst e
            have e1 : mc = ma := HMC.it.symm.trans HMA.it
            have e2 : tc = ta := HTC.it.symm.trans HTA.it
            subst e1 e2
            have LF := Aside.mk (fun W (h : Aside (Iz A w [(bo, 41, [.int .i64 kind, .int .u32 id])] pv y own5 W)) => iz_left h)
            simp only [HLA.it] at LF
            clear HE hkk hv f1 f2
            cases ka
            · go_wp2_with (first | (go_at_call 10; refine (LF.it _ P9).mono ?_; rintro e wb ⟨rfl, Pb⟩) | fail)
              go_meet
              case rel => exact ⟨by simp, Pb⟩
            · have KN := Aside.mk (iz_known P9 id i0)
              rw [HKA.it] at KN
              go_wp2_with (first | (go_at_call 19; refine KN.it.mono ?_; rintro e wa ⟨rfl, Pa⟩) | (go_at_call 10; refine (LF.it _ Pa).mono ?_; rintro e wb ⟨rfl, Pb⟩) | fail)
              go_meet
              case rel => exact ⟨by simp, Pb⟩
        case rest =>
          obtain ⟨rfl, P10⟩ := hcut
          clear P9 o0 o1 hv HE f1 f2 HMA HTA HLA HKA MZ mb tb
          go_upto_region 23 with fail
          generalize wc = wq at P10 ⊢
          go_cut [118, 119, 120] (fun sl ln ix wx => ∃ lo : Nat, lo ≤ k ∧ sl = .slice (some ⟨sb, so + lo * 2, none⟩) (k + 1 - lo) (sc - lo) ∧ ln = .int .i64 ((k + 1 - lo : Nat) : Int) ∧ ix = .int .i64 0 ∧ wx = wq)
          case first =>
            by_cases h2 : 200 < k
            · have h3 : (200 : Int) < k := by omega
              go_wp2_with fail
              go_meet
              case rel => exact ⟨k - 200, by omega, rfl, rfl, rfl, rfl⟩
            · have h3 : (k : Int) ≤ 200 := by omega
              go_wp2_with fail
              go_meet
              case rel => exact ⟨0, by omega, rfl, rfl, rfl, rfl⟩
          case rest =>
            obtain ⟨lo, hlo, rfl, rfl, rfl, rfl⟩ := hcut
            have P11 : Aside (Iz A w [] pv y own5 wc) := Iz.sub P10 (fun x hx => by cases hx)
            clear P10
            obtain ⟨J, hJ⟩ : ∃ J, Aside (J = k + 1 - lo) := ⟨_, ⟨rfl⟩⟩
            rw [← hJ.it]
            have hJ1 : Aside (lo + J ≤ M) := ⟨by have := hJ.it; omega⟩
            have hJ2 : (J : Int) ≤ M := by have := hJ1.it; omega
            have hJ3 : J ≤ sc - lo := by have := hJ1.it; omega
            go_upto_region 24 with fail
            go_loopw [120] (fun ix wr => ∃ (j : Nat) (own : Nat → Nat), ix = .int .i64 j ∧ j ≤ J ∧ Aside (Iz A w [] pv y own wr)) (fun ix _ => J - (intOf ix).toNat)
            case atStart => exact ⟨0, own5, rfl, Nat.zero_le _, P11⟩
            case round =>
              clear P11
              obtain ⟨j, own, rfl, hj, HP⟩ := hrel
              rcases Nat.eq_or_lt_of_le hj with rfl | hjl
              · go_wp2_with fail
                all_goals first
                  | (exfalso; omega)
                  | skip
                go_roundw
                case rel => exact ⟨k + 1, own, y, by go_num, by omega, HP⟩
                case measure => simp [intOf]; omega
              · obtain ⟨pk, pid, sb', so', ⟨p0, p1⟩, esb, _, r0, r1⟩ := Ops14.read HAT.it (lo + j) (by rw [← hM.it]; have := hJ1.it; omega)
                obtain ⟨rfl, rfl⟩ : sb = sb' ∧ so = so' := by simpa using esb
                replace r0 := HP.it.it.it.g.g.cell rfl r0
                replace r1 := HP.it.it.it.g.g.cell rfl r1
                rw [Nat.add_mul, ← Nat.add_assoc] at r0 r1
                have i5 : (j : Int) < J := by omega
                have i6 : (0 : Int) ≤ j := by omega
                have i7 : (j : Int) ≤ 9223372036854775806 := by omega
                clear esb hj
                go_upto_region 26 with fail
                obtain ⟨w11, hw11⟩ : ∃ w11, w11 = wr.alloc (.cells #[.int .i64 pk, .int .u32 pid] 41) := ⟨_, rfl⟩
                obtain ⟨own11, P11⟩ : ∃ own11, Aside (Iz A w [(wr.heap.size, 41, [.int .i64 pk, .int .u32 pid])] pv y own11 w11) := ⟨_, by rw [hw11]; exact Iz.box HP _ _⟩
                rw [← hw11]
                obtain ⟨bp, hbp⟩ : ∃ bp, Aside (bp = wr.heap.size) := ⟨_, ⟨rfl⟩⟩
                rw [← hbp.it] at P11 ⊢
                clear hw11 hbp HP r0 r1
                obtain ⟨q0, q1⟩ := Iz.op1 P11
                obtain ⟨bb, hbb⟩ : ∃ bb, zMine y pid = bb := ⟨_, rfl⟩
                have MI := Aside.mk (iz_mine P11 pid p0)
                rw [hbb] at MI
                have HB := Aside.mk hbb
                clear hbb
                cases bb
                · go_upto_region 29 with (first | (go_at_call 21; refine MI.it.mono ?_; rintro e w12 ⟨rfl, P12⟩) | fail)
                  clear q0 q1 P11 MI
                  obtain ⟨q0, q1⟩ := Iz.op1 P12
                  have EQ : zKnown y pid = (pid != 0 && decide (pid ≤ tc)) := by rw [zKnown_eq (Iz.ok P12) p0, HB.it]; simp [HTC.it]
                  have KQ := Aside.mk (KeW.call (w1 := w12) (fun W kk => iz_knownK (Iz.quiet P12 kk) pid p0))
                  rw [EQ] at KQ
                  have c0 := fun n => KeW.cell q0 n
                  have c1 := fun n => KeW.cell q1 n
                  clear q0 q1 EQ
                  haveI : Nonempty (KeW w12) := ⟨⟨w12, Keeps.refl _ _⟩⟩
                  by_cases hz : pid = 0
                  · subst hz
                    have e : ((0 : Int) != 0 && decide ((0 : Int) ≤ tc)) = false := rfl
                    rw [e] at KQ
                    clear e
                    refine wp_region_quietF (KeW.W (w1 := w12)) (by kernel_rfl) (by kernel_rfl) ⟨w12.drew, (Keeps.refl _ _).drew⟩ rfl ?_
                    repeat (go_big_quiet_step (first | (go_at_call 19; exact KQ.it _)))
                    refine wpQuiet_nil ?_
                    rintro _ ⟨n13, rfl⟩
                    have Q := Iz.quiet P12 n13.ok
                    generalize n13.W = w13 at *
                    clear c0 c1 KQ P12
                    go_wp2
                    go_roundw
                    case rel => exact ⟨j + 1, own11, by go_num, by omega, Iz.sub Q (fun x hx => by cases hx)⟩
                    case measure => simp [intOf]; omega
                  · have ez : (pid != 0) = true := by simpa using hz
                    rw [ez, Bool.true_and] at KQ
                    by_cases hle : pid ≤ tc
                    · rw [decide_eq_true hle] at KQ
                      refine wp_region_quietF (KeW.W (w1 := w12)) (by kernel_rfl) (by kernel_rfl) ⟨w12.drew, (Keeps.refl _ _).drew⟩ rfl ?_
                      repeat (go_big_quiet_step (first | (go_at_call 19; exact KQ.it _)))
                      refine wpQuiet_nil ?_
                      rintro _ ⟨n13, rfl⟩
                      have Q := Iz.quiet P12 n13.ok
                      generalize n13.W = w13 at *
                      clear c0 c1 KQ P12
                      go_wp2
                      go_roundw
                      case rel => exact ⟨j + 1, own11, by go_num, by omega, Iz.sub Q (fun x hx => by cases hx)⟩
                      case measure => simp [intOf]; omega
                    · rw [decide_eq_false hle] at KQ
                      refine wp_region_quietF (KeW.W (w1 := w12)) (by kernel_rfl) (by kernel_rfl) ⟨w12.drew, (Keeps.refl _ _).drew⟩ rfl ?_
                      repeat (go_big_quiet_step (first | (go_at_call 19; exact KQ.it _)))
                      refine wpQuiet_nil ?_
                      rintro _ ⟨n13, rfl⟩
                      have Q := Iz.quiet P12 n13.ok
                      generalize n13.W = w13 at *
                      clear c0 c1 KQ P12
                      go_wp2
                      go_roundw
                      case rel => exact ⟨j + 1, own11, by go_num, by omega, Iz.sub Q (fun x hx => by cases hx)⟩
                      case measure => simp [intOf]; omega

                · go_upto_region 29 with (first | (go_at_call 21; refine MI.it.mono ?_; rintro e w12 ⟨rfl, P12⟩) | fail)
                  clear q0 q1 P11 MI
                  obtain ⟨q0, q1⟩ := Iz.op1 P12
                  have EQ : zKnown y pid = (pid != 0 && decide (pid ≤ mc)) := by rw [zKnown_eq (Iz.ok P12) p0, HB.it]; simp [HMC.it]
                  have KQ := Aside.mk (KeW.call (w1 := w12) (fun W kk => iz_knownK (Iz.quiet P12 kk) pid p0))
                  rw [EQ] at KQ
                  have c0 := fun n => KeW.cell q0 n
                  have c1 := fun n => KeW.cell q1 n
                  clear q0 q1 EQ
                  haveI : Nonempty (KeW w12) := ⟨⟨w12, Keeps.refl _ _⟩⟩
                  by_cases hz : pid = 0
                  · subst hz
                    have e : ((0 : Int) != 0 && decide ((0 : Int) ≤ mc)) = false := rfl
                    rw [e] at KQ
                    clear e
                    refine wp_region_quietF (KeW.W (w1 := w12)) (by kernel_rfl) (by kernel_rfl) ⟨w12.drew, (Keeps.refl _ _).drew⟩ rfl ?_
                    repeat (go_big_quiet_step (first | (go_at_call 19; exact KQ.it _)))
                    refine wpQuiet_nil ?_
                    rintro _ ⟨n13, rfl⟩
                    have Q := Iz.quiet P12 n13.ok
                    generalize n13.W = w13 at *
                    clear c0 c1 KQ P12
                    go_wp2
                    go_roundw
                    case rel => exact ⟨j + 1, own11, by go_num, by omega, Iz.sub Q (fun x hx => by cases hx)⟩
                    case measure => simp [intOf]; omega
                  · have ez : (pid != 0) = true := by simpa using hz
                    rw [ez, Bool.true_and] at KQ
                    by_cases hle : pid ≤ mc
                    · rw [decide_eq_true hle] at KQ
                      refine wp_region_quietF (KeW.W (w1 := w12)) (by kernel_rfl) (by kernel_rfl) ⟨w12.drew, (Keeps.refl _ _).drew⟩ rfl ?_
                      repeat (go_big_quiet_step (first | (go_at_call 19; exact KQ.it _)))
                      refine wpQuiet_nil ?_
                      rintro _ ⟨n13, rfl⟩
                      have Q := Iz.quiet P12 n13.ok
                      generalize n13.W = w13 at *
                      clear c0 c1 KQ P12
                      go_wp2
                      go_roundw
                      case rel => exact ⟨j + 1, own11, by go_num, by omega, Iz.sub Q (fun x hx => by cases hx)⟩
                      case measure => simp [intOf]; omega
                    · rw [decide_eq_false hle] at KQ
                      refine wp_region_quietF (KeW.W (w1 := w12)) (by kernel_rfl) (by kernel_rfl) ⟨w12.drew, (Keeps.refl _ _).drew⟩ rfl ?_
                      repeat (go_big_quiet_step (first | (go_at_call 19; exact KQ.it _)))
                      refine wpQuiet_nil ?_
                      rintro _ ⟨n13, rfl⟩
                      have Q := Iz.quiet P12 n13.ok
                      generalize n13.W = w13 at *
                      clear c0 c1 KQ P12
                      go_wp2
                      go_roundw
                      case rel => exact ⟨j + 1, own11, by go_num, by omega, Iz.sub Q (fun x hx => by cases hx)⟩
                      case measure => simp [intOf]; omega

end Go.Proofs.YthfedcebbnlmaaaDoor
