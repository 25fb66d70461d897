/-
  IdsAnswers
-/
import Derived.Test.YthfedcebbnlmaaaDoorIdZ
namespace Go.Proofs.YthfedcebbnlmaaaDoor
open Go.RowKit

set_option maxRecDepth 20000 in
set_option maxHeartbeats 40000000 in
theorem idsAnswers_walk {A : Nat → Addr} (v1 : Value) (ww : WhoseV) (v2 : Value) (zs : List OpV14) (w : World) (hs : St14 A w) (hz : WhoseArg w v1 ww) (hz2 : Ops14Arg w v2 zs) :
    Calls Tryd.prog 4 #[v1, v2] w fun e w' => e = .returned (.bool true) ∧ Below w.heap.size w w' := by
  obtain ⟨c, nn, s⟩ := ww
  obtain ⟨rfl, _⟩ := hz
  obtain ⟨sa, sc, rfl, hlc, hmx, hat⟩ := hz2
  obtain ⟨M, hM⟩ : ∃ M, Aside (M = zs.length) := ⟨_, ⟨rfl⟩⟩
  rw [← hM.it] at hlc ⊢
  have G0 := IdW.start hs
  have HAT := Aside.mk hat
  have hM63 : (M : Int) ≤ 9223372036854775807 := by
    have : sc ≤ 9223372036854775807 := hmx
    omega
  clear hs hat hmx
  simp only
  go_enter Tryd.func4, Tryd.ntmps4
  go_upto_region 1 with fail
  obtain ⟨W0, hW0⟩ : ∃ W0, W0 = w.alloc (.cells #[.bool c, .bool nn, .int .i64 s] 34) := ⟨_, rfl⟩
  obtain ⟨own0, P0⟩ : ∃ own0, Aside (IdW A w [(w.heap.size, 34, [.bool c, .bool nn, .int .i64 s])] [] own0 W0) := ⟨_, by rw [hW0]; exact IdW.box G0 _ _⟩
  rw [← hW0]
  obtain ⟨bx, hb⟩ : ∃ bx, Aside (bx = w.heap.size) := ⟨_, ⟨rfl⟩⟩
  rw [← hb.it] at P0 ⊢
  clear hW0 G0
  have F := Aside.mk (fixed14 (IdW.st P0))
  go_upto_region 3 with (first | (go_at_call 12; refine F.it.mono ?_; rintro e w1 ⟨rfl, b1⟩) | fail)
  have P1 := IdW.quiet P0 (Keeps.ofBelow b1.it)
  clear F P0 b1
  have r0 := IdW.cell P1 0
  have r1 := IdW.cell P1 1
  have r2 := IdW.cell P1 2
  simp only [List.getElem?_cons_zero, List.getElem?_cons_succ] at r0 r1 r2
  have BG := Aside.mk (begin14 P1 c nn s (fun x hx => by rw [List.mem_singleton.1 hx]; show (34 : Nat) ≠ 37; decide))
  go_upto_region 7 with (first | (go_at_call 13; refine BG.it.mono ?_; rintro e w2 ⟨z0, own2, rfl, P2⟩) | fail)
  obtain ⟨pv, hpv⟩ : ∃ pv, zv z0 = pv := ⟨_, rfl⟩
  have Q2 : Aside (Iz A w [] pv z0 own2 w2) := ⟨⟨IdW.less P2, hpv⟩⟩
  rw [hpv]
  clear hpv P2 P1 BG r0 r1 r2
  obtain ⟨w3, hw3⟩ : ∃ w3, w3 = w2.alloc (.cells #[.int .i64 (zf z0), .int .i64 (zb z0), .int .i64 (zn z0), .int .i64 (zM z0), .int .i64 (zT z0)] 37) := ⟨_, rfl⟩
  obtain ⟨own3, P3⟩ : ∃ own3, Aside (Iz A w [(w2.heap.size, 37, refC z0)] pv z0 own3 w3) := ⟨_, by rw [hw3]; exact Iz.box Q2 _ _⟩
  rw [← hw3]
  obtain ⟨bm, hbm⟩ : ∃ bm, Aside (bm = w2.heap.size) := ⟨_, ⟨rfl⟩⟩
  rw [← hbm.it] at P3 ⊢
  clear hw3 hbm Q2
  go_loopw [34] (fun iv wr => ∃ (k : Nat) (own : Nat → Nat) (z : Option (Nat × Im)), iv = .int .i64 k ∧ k ≤ M ∧ Aside (Iz A w [(bm, 37, refC z)] pv z own wr)) (fun iv _ => M - (intOf iv).toNat)
  case atStart => exact ⟨0, own3, z0, rfl, Nat.zero_le _, P3⟩
  case round =>
    clear P3
    obtain ⟨k, own, z, rfl, hk, HP⟩ := hrel
    rcases Nat.eq_or_lt_of_le hk with rfl | hlt
    · have LF := Aside.mk (KeW.call (w1 := wr) (fun W kk => iz_leftK (Iz.quiet HP kk)))
      have RL := Aside.mk (KeW.call (w1 := wr) (fun W _ => rzLeft (Iz.ok HP) W))
      obtain ⟨d0, d1, d2, d3, d4⟩ := Iz.m HP
      have c0 := fun n => KeW.cell d0 n
      have c1 := fun n => KeW.cell d1 n
      have c2 := fun n => KeW.cell d2 n
      have c3 := fun n => KeW.cell d3 n
      have c4 := fun n => KeW.cell d4 n
      clear d0 d1 d2 d3 d4
      haveI : Nonempty (KeW wr) := ⟨⟨wr, Keeps.refl _ _⟩⟩
      go_upto_region 31 with fail
      all_goals first
        | (exfalso; omega)
        | skip
      refine wp_region_quietF (KeW.W (w1 := wr)) (by kernel_rfl) (by kernel_rfl) ⟨wr.drew, (Keeps.refl _ _).drew⟩ rfl ?_
      repeat (go_big_quiet_step (first | (go_at_call 10; exact LF.it _) | (go_at_call 24; exact RL.it _)))
      refine wpQuiet_nil ?_
      rintro _ ⟨n11, rfl⟩
      have Q := Iz.quiet HP n11.ok
      generalize n11.W = w11 at *
      clear c0 c1 c2 c3 c4 LF RL
      go_wp2
      go_ret
      exact ⟨by simp, Iz.bel Q⟩
    · obtain ⟨kind, id, sb, so, ⟨i0, i1⟩, rfl, _, r0, r1⟩ := Ops14.read HAT.it k (by rw [← hM.it]; exact hlt)
      replace r0 := HP.it.it.it.g.g.cell rfl r0
      replace r1 := HP.it.it.it.g.g.cell rfl r1
      have i2 : (k : Int) < M := by omega
      have i3 : (0 : Int) ≤ k := by omega
      have i4 : (k : Int) ≤ 9223372036854775806 := by omega
      go_upto_region 9 with fail
      obtain ⟨w4, hw4⟩ : ∃ w4, w4 = wr.alloc (.cells #[.int .i64 kind, .int .u32 id] 41) := ⟨_, rfl⟩
      obtain ⟨own4, P4⟩ : ∃ own4, Aside (Iz A w [(bm, 37, refC z), (wr.heap.size, 41, [.int .i64 kind, .int .u32 id])] pv z own4 w4) := ⟨_, by rw [hw4]; exact Iz.sub (Iz.box HP _ _) (fun x hx => by simp only [List.mem_cons] at hx ⊢; rcases hx with h | h | h <;> simp [h])⟩
      rw [← hw4]
      obtain ⟨bo, hbo⟩ : ∃ bo, Aside (bo = wr.heap.size) := ⟨_, ⟨rfl⟩⟩
      rw [← hbo.it] at P4 ⊢
      clear hw4 hbo HP r0 r1 hk
      obtain ⟨o0, o1⟩ := Iz.op P4
      go_upto_block 2 with fail
      go_cut [7] (fun ok wx => ok = .bool true ∧ ∃ (y : Option (Nat × Im)) (own : Nat → Nat), Aside (Iz A w [(bm, 37, refC y), (bo, 41, [.int .i64 kind, .int .u32 id])] pv y own wx))
      case first =>
        by_cases k0 : kind = 0
        · subst k0
          have nb := zNextN_le (Iz.ok P4)
          obtain ⟨d0, d1, d2, d3, d4⟩ := Iz.m P4
          go_upto_region 14 with (first | (go_at_call 14; refine (rzTake (Iz.ok P4) _).mono ?_; rintro e w5 ⟨rfl, k5⟩) | fail)
          have P5 := Iz.quiet P4 k5.it
          obtain ⟨y, hy⟩ : ∃ y, y = zNext z := ⟨_, rfl⟩
          rw [← hy]
          obtain ⟨w6, hw6⟩ : ∃ w6, w6 = w5.alloc (.cells #[.int .i64 (zf y), .int .i64 (zb y), .int .i64 (zn y), .int .i64 (zM y), .int .i64 (zT y)] 37) := ⟨_, rfl⟩
          obtain ⟨own6, P6⟩ : ∃ own6, Aside (Iz A w [(w5.heap.size, 37, refC y), (bm, 37, refC z), (bo, 41, [.int .i64 0, .int .u32 id])] pv z own6 w6) := ⟨_, by rw [hw6]; exact Iz.box P5 _ _⟩
          rw [← hw6]
          obtain ⟨bn, hbn⟩ : ∃ bn, Aside (bn = w5.heap.size) := ⟨_, ⟨rfl⟩⟩
          rw [← hbn.it] at P6 ⊢
          clear hw6 hbn P5 P4 k5 d0 d1 d2 d3 d4 o0 o1
          have NX := Aside.mk (iz_next P6)
          rw [← hy] at NX
          obtain ⟨n0, n1⟩ := nb
          generalize zNextN z = nn1 at n0 n1 NX ⊢
          generalize zNextE z = ee at NX ⊢
          clear hy P6
          go_upto_region 15 with (first | (go_at_call 11; refine NX.it.mono ?_; rintro e w7 ⟨v, rfl, hv, P7⟩) | fail)
          obtain ⟨g0, g1, g2, g3, g4⟩ := Iz.m P7
          have P7' := Iz.sub (X' := [(bm, 37, refC z)]) P7 (fun x hx => by rw [List.mem_singleton.1 hx]; simp)
          obtain ⟨d0, d1, d2, d3, d4⟩ := Iz.m P7'
          obtain ⟨f0, f1, f2, f3, f4⟩ := Iz.mF P7'
          have P8 := Iz.put P7
          go_upto_region 16 with fail
          clear d0 d1 d2 d3 d4 f0 f1 f2 f3 f4 g0 g1 g2 g3 g4 P7 P7' NX
          generalize (((((w7.setCell ⟨bm, 0, none⟩ (.int .i64 (zf y))).setCell ⟨bm, 1, none⟩ (.int .i64 (zb y))).setCell ⟨bm, 2, none⟩ (.int .i64 (zn y))).setCell ⟨bm, 3, none⟩ (.int .i64 (zM y))).setCell ⟨bm, 4, none⟩ (.int .i64 (zT y))) = w8 at P8 ⊢
          go_wp2_with (first
            | (go_at_call 9; refine (iz_code P8 hv).mono ?_; rintro e w9 ⟨rfl, rfl⟩)
            | fail)
          go_meet
          case rel => exact ⟨by simp, y, own6, P8⟩
        by_cases k1 : kind = 1
        · subst k1
          obtain ⟨d0, d1, d2, d3, d4⟩ := Iz.m P4
          go_upto_region 19 with (first | (go_at_call 15; refine (rzSent (Iz.ok P4) id i0 _).mono ?_; rintro e w5 ⟨rfl, k5⟩) | fail)
          have P5 := Iz.quiet P4 k5.it
          obtain ⟨y, hy⟩ : ∃ y, y = zSent z id := ⟨_, rfl⟩
          rw [← hy]
          have HY := Aside.mk hy
          clear hy
          obtain ⟨w6, hw6⟩ : ∃ w6, w6 = w5.alloc (.cells #[.int .i64 (zf y), .int .i64 (zb y), .int .i64 (zn y), .int .i64 (zM y), .int .i64 (zT y)] 37) := ⟨_, rfl⟩
          obtain ⟨own6, P6⟩ : ∃ own6, Aside (Iz A w [(w5.heap.size, 37, refC y), (bm, 37, refC z), (bo, 41, [.int .i64 1, .int .u32 id])] pv z own6 w6) := ⟨_, by rw [hw6]; exact Iz.box P5 _ _⟩
          rw [← hw6]
          obtain ⟨bn, hbn⟩ : ∃ bn, Aside (bn = w5.heap.size) := ⟨_, ⟨rfl⟩⟩
          rw [← hbn.it] at P6 ⊢
          clear hw6 hbn P5 P4 k5 d0 d1 d2 d3 d4 o0 o1
          obtain ⟨g0, g1, g2, g3, g4⟩ := Iz.m P6
          have P6' := Iz.sub (X' := [(bm, 37, refC z)]) P6 (fun x hx => by rw [List.mem_singleton.1 hx]; simp)
          obtain ⟨d0, d1, d2, d3, d4⟩ := Iz.m P6'
          obtain ⟨f0, f1, f2, f3, f4⟩ := Iz.mF P6'
          have P7 := Iz.put P6
          go_upto_region 20 with fail
          clear d0 d1 d2 d3 d4 f0 f1 f2 f3 f4 g0 g1 g2 g3 g4 P6 P6'
          generalize (((((w6.setCell ⟨bm, 0, none⟩ (.int .i64 (zf y))).setCell ⟨bm, 1, none⟩ (.int .i64 (zb y))).setCell ⟨bm, 2, none⟩ (.int .i64 (zn y))).setCell ⟨bm, 3, none⟩ (.int .i64 (zM y))).setCell ⟨bm, 4, none⟩ (.int .i64 (zT y))) = w7 at P7 ⊢
          obtain ⟨o0, o1⟩ := Iz.op P7
          have SE := Aside.mk (iz_sent P7 id i0 i1)
          rw [← HY.it] at SE
          generalize zSentE z id = ee at SE ⊢
          clear HY P7
          go_wp2_with (first
            | (go_at_call 16; refine SE.it.mono ?_; rintro e w8 ⟨v, rfl, hv, P8⟩)
            | (go_at_call 9; refine (iz_code P8 hv).mono ?_; rintro e w9 ⟨rfl, rfl⟩)
            | fail)
          go_meet
          case rel => exact ⟨by simp, y, own6, P8⟩
        by_cases k2 : kind = 2
        · subst k2
          obtain ⟨d0, d1, d2, d3, d4⟩ := Iz.m P4
          go_upto_region 23 with (first | (go_at_call 17; refine (rzHear (Iz.ok P4) id i0 _).mono ?_; rintro e w5 ⟨rfl, k5⟩) | fail)
          have P5 := Iz.quiet P4 k5.it
          obtain ⟨y, hy⟩ : ∃ y, y = zHear z id := ⟨_, rfl⟩
          rw [← hy]
          have HY := Aside.mk hy
          clear hy
          obtain ⟨w6, hw6⟩ : ∃ w6, w6 = w5.alloc (.cells #[.int .i64 (zf y), .int .i64 (zb y), .int .i64 (zn y), .int .i64 (zM y), .int .i64 (zT y)] 37) := ⟨_, rfl⟩
          obtain ⟨own6, P6⟩ : ∃ own6, Aside (Iz A w [(w5.heap.size, 37, refC y), (bm, 37, refC z), (bo, 41, [.int .i64 2, .int .u32 id])] pv z own6 w6) := ⟨_, by rw [hw6]; exact Iz.box P5 _ _⟩
          rw [← hw6]
          obtain ⟨bn, hbn⟩ : ∃ bn, Aside (bn = w5.heap.size) := ⟨_, ⟨rfl⟩⟩
          rw [← hbn.it] at P6 ⊢
          clear hw6 hbn P5 P4 k5 d0 d1 d2 d3 d4 o0 o1
          obtain ⟨g0, g1, g2, g3, g4⟩ := Iz.m P6
          have P6' := Iz.sub (X' := [(bm, 37, refC z)]) P6 (fun x hx => by rw [List.mem_singleton.1 hx]; simp)
          obtain ⟨d0, d1, d2, d3, d4⟩ := Iz.m P6'
          obtain ⟨f0, f1, f2, f3, f4⟩ := Iz.mF P6'
          have P7 := Iz.put P6
          go_upto_region 24 with fail
          clear d0 d1 d2 d3 d4 f0 f1 f2 f3 f4 g0 g1 g2 g3 g4 P6 P6'
          generalize (((((w6.setCell ⟨bm, 0, none⟩ (.int .i64 (zf y))).setCell ⟨bm, 1, none⟩ (.int .i64 (zb y))).setCell ⟨bm, 2, none⟩ (.int .i64 (zn y))).setCell ⟨bm, 3, none⟩ (.int .i64 (zM y))).setCell ⟨bm, 4, none⟩ (.int .i64 (zT y))) = w7 at P7 ⊢
          obtain ⟨o0, o1⟩ := Iz.op P7
          have SE := Aside.mk (iz_hear P7 id i0 i1)
          rw [← HY.it] at SE
          generalize zHearE z id = ee at SE ⊢
          clear HY P7
          go_wp2_with (first
            | (go_at_call 18; refine SE.it.mono ?_; rintro e w8 ⟨v, rfl, hv, P8⟩)
            | (go_at_call 9; refine (iz_code P8 hv).mono ?_; rintro e w9 ⟨rfl, rfl⟩)
            | fail)
          go_meet
          case rel => exact ⟨by simp, y, own6, P8⟩
        by_cases k3 : kind = 3
        · subst k3
          have MI := Aside.mk (KeW.call (w1 := w4) (fun W kk => iz_knownK (Iz.quiet P4 kk) id i0))
          have RL := Aside.mk (KeW.call (w1 := w4) (fun W _ => rzKnown (Iz.ok P4) id i0 W))
          obtain ⟨d0, d1, d2, d3, d4⟩ := Iz.m P4
          have c0 := fun n => KeW.cell d0 n
          have c1 := fun n => KeW.cell d1 n
          have c2 := fun n => KeW.cell d2 n
          have c3 := fun n => KeW.cell d3 n
          have c4 := fun n => KeW.cell d4 n
          have c5 := fun n => KeW.cell o1 n
          clear d0 d1 d2 d3 d4
          haveI : Nonempty (KeW w4) := ⟨⟨w4, Keeps.refl _ _⟩⟩
          go_upto_region 26 with fail
          refine wp_region_quietF (KeW.W (w1 := w4)) (by kernel_rfl) (by kernel_rfl) ⟨w4.drew, (Keeps.refl _ _).drew⟩ rfl ?_
          repeat (go_big_quiet_step (first | (go_at_call 19; exact MI.it _) | (go_at_call 20; exact RL.it _)))
          refine wpQuiet_nil ?_
          rintro _ ⟨n11, rfl⟩
          have Q := Iz.quiet P4 n11.ok
          generalize n11.W = w11 at *
          clear c0 c1 c2 c3 c4 c5 MI RL
          go_wp2
          go_meet
          case rel => exact ⟨by simp, z, own4, Q⟩
        · have MI := Aside.mk (KeW.call (w1 := w4) (fun W kk => iz_mineK (Iz.quiet P4 kk) id i0))
          have RL := Aside.mk (KeW.call (w1 := w4) (fun W _ => rzOwn (Iz.ok P4) id i0 W))
          obtain ⟨d0, d1, d2, d3, d4⟩ := Iz.m P4
          have c0 := fun n => KeW.cell d0 n
          have c1 := fun n => KeW.cell d1 n
          have c2 := fun n => KeW.cell d2 n
          have c3 := fun n => KeW.cell d3 n
          have c4 := fun n => KeW.cell d4 n
          have c5 := fun n => KeW.cell o1 n
          clear d0 d1 d2 d3 d4
          haveI : Nonempty (KeW w4) := ⟨⟨w4, Keeps.refl _ _⟩⟩
          go_upto_region 11 with fail
          refine wp_region_quietF (KeW.W (w1 := w4)) (by kernel_rfl) (by kernel_rfl) ⟨w4.drew, (Keeps.refl _ _).drew⟩ rfl ?_
          repeat (go_big_quiet_step (first | (go_at_call 21; exact MI.it _) | (go_at_call 22; exact RL.it _)))
          refine wpQuiet_nil ?_
          rintro _ ⟨n11, rfl⟩
          have Q := Iz.quiet P4 n11.ok
          generalize n11.W = w11 at *
          clear c0 c1 c2 c3 c4 c5 MI RL
          go_wp2
          go_meet
          case rel => exact ⟨by simp, z, own4, Q⟩
      case rest =>
        obtain ⟨rfl, y, own5, P5⟩ := hcut
        clear P4 o0 o1
        have mb := zM_le (Iz.ok P5)
        have tb := zT_le (Iz.ok P5)
        have MK := Aside.mk (iz_marks P5)
        go_upto_region 28 with (first | (go_at_call 23; refine MK.it.mono ?_; rintro e w6 ⟨rfl, P6⟩) | fail)
        clear MK P5
        have LF := Aside.mk (KeW.call (w1 := w6) (fun W kk => iz_leftK (Iz.quiet P6 kk)))
        have RL := Aside.mk (KeW.call (w1 := w6) (fun W _ => rzLeft (Iz.ok P6) W))
        obtain ⟨d0, d1, d2, d3, d4⟩ := Iz.m P6
        obtain ⟨m0, m1⟩ := mb
        obtain ⟨t0, t1⟩ := tb
        have P7 : ∃ cs, Aside (Iz A w [(bm, 37, cs)] pv y own5 w6) ∧ cs = refC y := ⟨_, Iz.sub P6 (fun x hx => by rw [List.mem_singleton.1 hx]; simp), rfl⟩
        obtain ⟨cs, P7, hcs⟩ := P7
        have HCS := Aside.mk hcs
        clear P6 hcs
        generalize zM y = mm at m0 m1 d3 RL ⊢
        generalize zT y = tt at t0 t1 d4 RL ⊢
        have c0 := fun n => KeW.cell d0 n
        have c1 := fun n => KeW.cell d1 n
        have c2 := fun n => KeW.cell d2 n
        have c3 := fun n => KeW.cell d3 n
        have c4 := fun n => KeW.cell d4 n
        clear d0 d1 d2 d3 d4
        haveI : Nonempty (KeW w6) := ⟨⟨w6, Keeps.refl _ _⟩⟩
        refine wp_region_quietF (KeW.W (w1 := w6)) (by kernel_rfl) (by kernel_rfl) ⟨w6.drew, (Keeps.refl _ _).drew⟩ rfl ?_
        repeat (go_big_quiet_step (first | (go_at_call 10; exact LF.it _) | (go_at_call 24; exact RL.it _)))
        refine wpQuiet_nil ?_
        rintro _ ⟨n11, rfl⟩
        have Q := Iz.quiet P7 n11.ok
        generalize n11.W = w11 at *
        clear c0 c1 c2 c3 c4 LF RL P7
        go_wp2
        rw [HCS.it] at Q
        exact ⟨⟨k + 1, own5, y, by go_num, by omega, Q⟩, by simp [intOf]; omega⟩
end Go.Proofs.YthfedcebbnlmaaaDoor
