/-
  FifoOrder, walked (lists up to their bulk).
-/
import Derived.Test.YtedjgkgffhapiaaDoorFifoOr
import Derived.Deep.CutBlock
namespace Go.Proofs.YtedjgkgffhapiaaDoor
open Go.RowKit

set_option maxRecDepth 20000 in
set_option maxHeartbeats 4000000 in
theorem fifoOrder_walkU {A : Nat → Addr} (room : Value) (z : RoomW) (va : Value) (zs : List Int) (vb : Value) (ys : List Bool) (w : World) (hs : Sents 66 codeVars A w) (hr : RoomWArg w room z) (hz : IntsFArg w va zs) (hy : BoolsFArg w vb ys) :
    Calls Tryd.prog 3 #[room, va, vb] w fun e w' => e = .returned (.bool true) ∧ Below w.heap.size w w' := by
  obtain ⟨t, r⟩ := z
  obtain ⟨rfl, ht, hr2⟩ := hr
  obtain ⟨⟨sa, sc, rfl, hlc, _, hat⟩, hMb⟩ := hz
  obtain ⟨⟨ta, tc, rfl, htc, _, hbt⟩, hNb⟩ := hy
  simp only at ht hr2 ⊢
  obtain ⟨M, hM⟩ : ∃ M, Aside (M = zs.length) := ⟨_, ⟨rfl⟩⟩
  obtain ⟨N, hN⟩ : ∃ N, Aside (N = ys.length) := ⟨_, ⟨rfl⟩⟩
  rw [← hM.it] at hlc hMb ⊢
  rw [← hN.it] at htc hNb ⊢
  have HAT := Aside.mk (fun k n hk => IntsF.read hat k n hk)
  have HBT := Aside.mk (fun k n hk => BoolsF.read hbt k n hk)
  obtain ⟨w1, hw1⟩ : ∃ w1, w1 = w.alloc (.cells #[.int .i64 t, .int .i64 r] 23) := ⟨_, rfl⟩
  have B : Cells w1 w.heap.size 23 [.int .i64 t, .int .i64 r] := by rw [hw1]; exact Cells.new w _ _
  have K : Keeps Nowhere w w1 := by rw [hw1]; exact (Keeps.refl _ _).alloc _
  have G1 := Aside.mk ((OnG.start hs).quiet K)
  have WK := Aside.mk (wakes_ok w1 G1.it.sents)
  have B1 := Aside.mk B
  clear hs hat hbt K B
  go_enter Tryd.func3, Tryd.ntmps3
  go_upto_region 1 with fail
  rw [← hw1]
  obtain ⟨b, hb⟩ : ∃ b, Aside (b = w.heap.size) := ⟨_, ⟨rfl⟩⟩
  rw [← hb.it] at B1 ⊢
  clear hw1
  go_upto_region 3 with (first | (go_at_call 4; refine WK.it.mono ?_; rintro e w2 ⟨rfl, b2⟩) | fail)
  have K2 := Aside.mk (Keeps.ofBelow (S := Nowhere) b2.it)
  have B2 := Aside.mk (B1.it.later K2.it (fun x => x))
  have G2 := Aside.mk (G1.it.quiet K2.it)
  have c0 : w2.cell? ⟨b, 0, none⟩ = some (.int .i64 t) := by rw [B2.it.cell]; rfl
  have c1 : w2.cell? ⟨b, 1, none⟩ = some (.int .i64 r) := by rw [B2.it.cell]; rfl
  clear WK G1 B1 K2 b2
  by_cases hn : t < 0 ∨ r < 0
  · have NW := Aside.mk (Fint.new_bad w2 t r _ (G2.it.sents.cell 1 0 rfl) hn)
    go_upto_region 4 with (first | (go_at_call 5; refine NW.it.mono ?_; rintro e w3 ⟨rfl, k3⟩) | fail)
    have B3 := B2.it.later k3 (fun x => x)
    have c2 : w3.cell? ⟨b, 0, none⟩ = some (.int .i64 t) := by rw [B3.cell]; rfl
    have c3 : w3.cell? ⟨b, 1, none⟩ = some (.int .i64 r) := by rw [B3.cell]; rfl
    have G3 := Aside.mk (G2.it.quiet k3)
    clear B3 k3 NW
    by_cases h0 : t < 0
    · go_wp2_with fail
      go_ret
      exact ⟨rfl, G3.it.g.bel⟩
    · have h1 : r < 0 := by omega
      go_wp2_with fail
      go_ret
      exact ⟨rfl, G3.it.g.bel⟩
  · obtain ⟨rt, rfl⟩ : ∃ rt : Nat, t = rt := ⟨t.toNat, by omega⟩
    obtain ⟨rw_, rfl⟩ : ∃ rw_ : Nat, r = rw_ := ⟨r.toNat, by omega⟩
    clear hn
    have NW := Aside.mk (Fint.new_o w2 rt rw_ (by omega) (by omega) (fun _ => 0) 1)
    go_upto_region 4 with (first | (go_at_call 5; refine NW.it.mono ?_; rintro e w3 ⟨p, rfl, F3, k3⟩) | fail)
    obtain ⟨own3, P3⟩ : ∃ own3, Aside (Fo3 A w b p rt rw_ [] 0 0 own3 w3) := by
      have s : Sn (fun _ => False) (fun _ => 0) w2 (give (fun _ => 0) w2.heap.size 1) w3 := Sn.quiet k3.it 1
      exact ⟨_, ⟨F3.it, G2.it.sn s (fun x => x), (show CellsO (fun _ => 0) 0 w2 b _ _ from ⟨B2.it, rfl⟩).sn s (fun x => x), rfl, rfl⟩⟩
    clear NW F3 k3 G2 B2 c0 c1
    obtain ⟨c0, c1⟩ := Fo3.room P3
    go_upto_region 10 with fail
    all_goals first
      | (exfalso; omega)
      | skip
    clear c0 c1
    have I0 := Aside.mk (Inv3.start zs)
    go_loopw [9, 10, 11, 12, 13] (fun pv ov lv hv iv wr => ∃ (k pt out L S : Nat) (q : List (Int × Nat)) (last : Int) (own : Nat → Nat), pv = .int .i64 pt ∧ ov = .int .i64 out ∧ lv = .int .i64 last ∧ hv = .int .i64 S ∧ iv = .int .i64 k ∧ k ≤ M ∧ Aside (pt = out + L ∧ pt ≤ k) ∧ Aside (Inv3 zs q k last) ∧ Aside (Fo3 A w b p rt rw_ q L S own wr)) (fun _ _ _ _ iv _ => M - (intOf iv).toNat)
    case atStart => exact ⟨0, 0, 0, 0, 0, [], -1, own3, rfl, rfl, rfl, rfl, rfl, Nat.zero_le _, ⟨rfl, Nat.le_refl _⟩, I0, P3⟩
    case round =>
      obtain ⟨k, pt, out, L, S, q, last, own, rfl, rfl, rfl, rfl, rfl, hk, hoL, IV, HP⟩ := hrel
      clear P3 I0
      obtain ⟨⟨hL1, hS1⟩, hrt, hrw⟩ := Fo3.facts HP
      have i3 : (0 : Int) ≤ k := by omega
      rcases Nat.eq_or_lt_of_le hk with rfl | hlt
      · go_wp2_with fail
        all_goals first
          | (exfalso; omega)
          | skip
        go_ret
        exact ⟨rfl, HP.it.g.g.bel⟩
      · obtain ⟨a, hzk⟩ : ∃ a, zs[k]? = some a := ⟨_, List.getElem?_eq_getElem (by have := hM.it; omega)⟩
        obtain ⟨sb, so, ⟨ha1, ha2⟩, rfl, hrd⟩ := HAT.it k a hzk
        have RD : Aside (∀ own' w', OnG A w own' w' → w'.cell? ⟨sb, so + k, none⟩ = some (.int .i64 a)) := ⟨fun _ _ g => g.g.cell rfl hrd⟩
        have HZK := Aside.mk hzk
        have r0 := RD.it _ _ HP.it.g
        have i2 : (k : Int) < M := by omega
        have i4 : (k : Int) ≤ 1048576 := by omega
        have hL5 : L ≤ 1048576 := by have := hoL.it; omega
        clear hrd hzk hk
        go_upto_region 13 with (first | (go_at_call 6; with_reducible refine (fo_len (by with_reducible assumption)).mono ?_; rintro e w5 ⟨rfl, P5⟩) | (go_at_call 7; with_reducible refine (fo_weight (by with_reducible assumption)).mono ?_; rintro e w5 ⟨rfl, P5⟩) | fail)
        obtain ⟨r0, c0, c1⟩ := (⟨RD.it _ _ P5.it.g, Fo3.room P5⟩ : _ ∧ _ ∧ _)
        clear HP
        obtain ⟨kd, hkd, PX⟩ : ∃ kd : Int, (kd = 0 ∨ kd = 2 ∨ kd = 6) ∧ Aside (∃ (q' : List (Int × Nat)) (L' S' : Nat), ((kd = 0 ∧ 0 ≤ a ∧ L < rt ∧ (S : Int) + a ≤ rw_ ∧ q' = q ++ [((k : Int), a.toNat)] ∧ L' = L + 1 ∧ (S' : Int) = S + a) ∨ (kd = 2 ∧ a < 0 ∧ q' = q ∧ L' = L ∧ S' = S) ∨ (kd = 6 ∧ 0 ≤ a ∧ (rt ≤ L ∨ (rw_ : Int) < S + a) ∧ q' = q ∧ L' = L ∧ S' = S)) ∧
            Calls Tryd.prog 9 #[ptr p, .int .i64 k, .int .i64 a] w5 fun e w' => ∃ er own', e = .returned er ∧ Hid (Coded A er kd) ∧ Aside (Fo3 A w b p rt rw_ q' L' S' own' w')) := by
          by_cases h0 : a < 0
          · exact ⟨2, .inr (.inl rfl), ⟨q, L, S, .inr (.inl ⟨rfl, h0, rfl, rfl, rfl⟩), fo_put_neg P5 k a (by omega) h0⟩⟩
          · by_cases h1 : rt ≤ L ∨ (rw_ : Int) < S + a
            · exact ⟨6, .inr (.inr rfl), ⟨q, L, S, .inr (.inr ⟨rfl, by omega, h1, rfl, rfl, rfl⟩), fo_put_full P5 k a (by omega) h0 h1⟩⟩
            · obtain ⟨m, rfl⟩ : ∃ m : Nat, a = m := ⟨a.toNat, by omega⟩
              exact ⟨0, .inl rfl, ⟨_, L + 1, S + m, .inl ⟨rfl, by omega, by omega, by omega, rfl, rfl, by omega⟩, fo_put_ok P5 k m (by omega) (by omega) (by omega)⟩⟩
        obtain ⟨q', L', S', hpc, hput⟩ := PX.it
        have PUT := Aside.mk hput
        clear PX hput hkd
        go_upto_block 2 with (first
          | (go_at_call 9; with_reducible refine PUT.it.mono ?_; rintro e w6 ⟨er, own6, rfl, hv6, P6⟩)
          | (go_at_call 8; with_reducible refine (fo_code P6 hv6).mono ?_; rintro e w7 ⟨rfl, rfl⟩)
          | fail)
        clear PUT P5 r0 c0 c1
        have r1 := RD.it _ _ P6.it.g
        obtain ⟨c2, c3⟩ := Fo3.room P6
        go_cut [9, 12] from 50 to 212 (fun pv hv wx => ∃ (pt' L' S' : Nat) (q' : List (Int × Nat)) (own' : Nat → Nat), pv = .int .i64 pt' ∧ hv = .int .i64 S' ∧ Aside (pt' = out + L' ∧ pt' ≤ k + 1) ∧ Aside (Inv3 zs q' (k + 1) last) ∧ Aside (Fo3 A w b p rt rw_ q' L' S' own' wx))
        case first =>
          as_aux_lemma =>
            rcases hpc with ⟨rfl, a0, a1, a2, hq', hL', hS'⟩ | ⟨rfl, a0, rfl, rfl, rfl⟩ | ⟨rfl, a0, a1, rfl, rfl, rfl⟩
            · have e1 : ¬ (rt : Int) ≤ L := by omega
              have e2 : (L' : Int) = L + 1 := by omega
              have HQ := Aside.mk hq'
              have e3 : (S : Int) + a ≤ 9223372036854775807 := by omega
              have e4 : (pt : Int) ≤ 1048576 := by have := hoL.it; omega
              have e5 : (L : Int) ≤ 1048576 := by omega
              have e6 : ¬ a < 0 := by omega
              have HL := Aside.mk hL'
              clear hq' hL' a2
              go_wp2_with (first | (go_at_call 6; with_reducible refine (fo_len (by with_reducible assumption)).mono ?_; rintro e w5 ⟨rfl, P5⟩) | (go_at_call 7; with_reducible refine (fo_weight (by with_reducible assumption)).mono ?_; rintro e w5 ⟨rfl, P5⟩) | fail)
              all_goals first
                | (exfalso; omega)
                | skip
              go_meet
              case rel =>
                have hL2 := HL.it
                have iv := IV.it.put (m := a.toNat) (by rw [Int.toNat_of_nonneg a0]; exact HZK.it)
                rw [← HQ.it] at iv
                exact ⟨pt + 1, L', S', q', own6, congrArg (Value.int .i64) (by omega), congrArg (Value.int .i64) (by omega), ⟨by have := hoL.it; omega, by have := hoL.it; omega⟩, ⟨iv⟩, by with_reducible assumption⟩
            · go_wp2_with fail
              all_goals first
                | (exfalso; omega)
                | skip
              go_meet
              case rel => exact ⟨pt, L', S', q', own6, rfl, rfl, ⟨hoL.it.1, by have := hoL.it; omega⟩, ⟨IV.it.skip⟩, P6⟩
            · have e1 : ¬ a < 0 := by omega
              by_cases h1 : (L' : Int) < rt
              · have e2 : ¬ a ≤ (rw_ : Int) - S' := by omega
                have e3 : (rw_ : Int) - S' ≤ 9223372036854775807 := by omega
                have e4 : 0 ≤ (rw_ : Int) - S' := by omega
                go_upto_region 22 with fail
                go_quiet (fail)
                go_wp2_with fail
                go_meet
                case rel => exact ⟨pt, L', S', q', own6, rfl, rfl, ⟨hoL.it.1, by have := hoL.it; omega⟩, ⟨IV.it.skip⟩, Fo3.quiet P6 ((Keeps.refl _ _).drewN _)⟩
              · go_upto_region 22 with fail
                go_quiet (fail)
                go_wp2_with fail
                go_meet
                case rel => exact ⟨pt, L', S', q', own6, rfl, rfl, ⟨hoL.it.1, by have := hoL.it; omega⟩, ⟨IV.it.skip⟩, Fo3.quiet P6 ((Keeps.refl _ _).drewN _)⟩
        case rest =>
          clear hpc P6 r1 c2 c3 IV hL1 hS1 hv6 HZK hL5 hoL
          obtain ⟨pt', L', S', q', own', rfl, rfl, hol, IV, HP⟩ := hcut
          obtain ⟨⟨hL1, hS1⟩, _, _⟩ := Fo3.facts HP
          have hpt5 : (pt' : Int) ≤ 1048577 := by have := hol.it; omega
          go_upto_region 24 with fail
          go_cut [147] from 50 to 212 (fun gv wx => gv = .bool (ys[k]?.getD false) ∧ wx = wc)
          case first =>
            as_aux_lemma =>
              rcases Nat.lt_or_ge k N with hb1 | hb1
              · obtain ⟨g, hg⟩ : ∃ g, ys[k]? = some g := ⟨_, List.getElem?_eq_getElem (by have := hN.it; omega)⟩
                obtain ⟨tb, to_, rfl, hrd⟩ := HBT.it k g hg
                have r2 := HP.it.g.g.cell rfl hrd
                have j2 : (k : Int) < N := by omega
                have HG := Aside.mk hg
                clear hrd hg
                go_wp2_with fail
                all_goals first
                  | (exfalso; omega)
                  | skip
                go_meet
                case rel => exact ⟨by rw [HG.it]; rfl, rfl⟩
              · have j2 : ¬ (k : Int) < N := by omega
                go_wp2_with fail
                all_goals first
                  | (exfalso; omega)
                  | skip
                go_meet
                case rel => exact ⟨by rw [List.getElem?_eq_none (by have := hN.it; omega)]; rfl, rfl⟩
          case rest =>
            obtain ⟨rfl, rfl⟩ := hcut
            generalize ys[k]?.getD false = gv
            go_upto_if 147 with fail
            go_cut [10, 11, 12] from 50 to 212 (fun ov lv hv wx => ∃ (out2 L2 S2 : Nat) (q2 : List (Int × Nat)) (last2 : Int) (own2 : Nat → Nat), ov = .int .i64 out2 ∧ lv = .int .i64 last2 ∧ hv = .int .i64 S2 ∧ Aside (out2 + L2 = pt') ∧ Aside (Inv3 zs q2 (k + 1) last2) ∧ Aside (Fo3 A w b p rt rw_ q2 L2 S2 own2 wx))
            case first =>
              as_aux_lemma =>
                cases gv
                · go_wp2_with fail
                  go_meet
                  case rel => exact ⟨out, L', S', q', last, own', rfl, rfl, rfl, ⟨hol.it.1.symm⟩, IV, HP⟩
                · cases q' with
                  | nil =>
                    have z0 : L' = 0 := HP.it.len.symm
                    have z1 : ¬ (out : Int) < pt' := by have := hol.it; omega
                    have GT := Aside.mk (fo_get_nil HP)
                    clear z0
                    go_wp2_with (first | (go_at_call 10; refine GT.it.mono ?_; rintro e w8 ⟨own8, rfl, P8⟩) | fail)
                    all_goals first
                      | (exfalso; omega)
                      | skip
                    go_meet
                    case rel => exact ⟨out, L', S', [], last, own8, rfl, rfl, rfl, ⟨hol.it.1.symm⟩, IV, P8⟩
                  | cons x q2 =>
                    obtain ⟨x, m⟩ := x
                    obtain ⟨⟨x1, x2, x3, x4⟩, iv⟩ := IV.it.get
                    simp only at x1 x2 x3 x4 iv
                    have IV2 := Aside.mk iv
                    clear iv
                    obtain ⟨j, rfl⟩ : ∃ j : Nat, x = j := ⟨x.toNat, by omega⟩
                    rw [Int.toNat_natCast] at x4
                    obtain ⟨L2, hL2⟩ : ∃ L2, L' = L2 + 1 := ⟨q2.length, by have := HP.it.len; rw [List.length_cons] at this; omega⟩
                    obtain ⟨S2, hS2⟩ : ∃ S2, S' = m + S2 := ⟨Fint.sumW q2, by have := HP.it.sum; rw [Fint.sumW_cons] at this; exact this.symm⟩
                    have HP2 : Aside (Fo3 A w b p rt rw_ (((j : Int), m) :: q2) (L2 + 1) (m + S2) own' wc) := by rw [← hL2, ← hS2]; exact HP
                    have GT := Aside.mk (fo_get_cons HP2 (by have := hol.it; omega))
                    obtain ⟨sb2, so2, _, hsb, hrd⟩ := HAT.it j m x4
                    injection hsb with hsb
                    injection hsb with hb1 hb2 _
                    subst hb1 hb2
                    have RJ : Aside (∀ own' w', OnG A w own' w' → w'.cell? ⟨sb, so + j, none⟩ = some (.int .i64 m)) := ⟨fun _ _ g => g.g.cell rfl hrd⟩
                    have z1 : (out : Int) < pt' := by have := hol.it; omega
                    have z2 : ¬ (j : Int) ≤ last := by omega
                    have z3 : ¬ (k : Int) < j := by omega
                    have z4 : (j : Int) < M := by omega
                    have z5 : (0 : Int) ≤ j := by omega
                    have z6 : IntKind.i64.wrap ((S' : Int) - m) = S2 := by rw [IntKind.wrap_i64]; omega
                    have z7 : (out : Int) ≤ 1048577 := by have := hol.it; omega
                    have HL2 := Aside.mk hL2
                    clear HP HP2 hL2 hS2 hrd x1 x2 x3 x4
                    go_upto_region 26 with (first | (go_at_call 10; refine GT.it.mono ?_; rintro e w8 ⟨own8, rfl, P8⟩) | fail)
                    have r3 := RJ.it _ _ P8.it.g
                    clear GT RJ
                    go_wp2_with fail
                    all_goals first
                      | (exfalso; omega)
                      | skip
                    go_meet
                    case rel =>
                      have hL2 := HL2.it
                      exact ⟨out + 1, L2, S2, q2, j, own8, congrArg (Value.int .i64) (by omega), rfl, rfl, ⟨by have := hol.it; omega⟩, IV2, P8⟩
            case rest =>
              as_aux_lemma =>
                clear IV HP hL1 hS1
                obtain ⟨out2, L2, S2, q2, last2, own2, rfl, rfl, rfl, hol2, IV, HP⟩ := hcut
                obtain ⟨⟨hL1, hS1⟩, _, _⟩ := Fo3.facts HP
                obtain ⟨c0, c1⟩ := Fo3.room HP
                have y1 : IntKind.i64.wrap ((pt' : Int) - out2) = L2 := by have := hol2.it; rw [IntKind.wrap_i64]; omega
                have y2 : ¬ (rt : Int) < L2 := by omega
                have y3 : ¬ (rw_ : Int) < S2 := by omega
                have LQ := Aside.mk (fo_lenQ HP)
                have WQ := Aside.mk (fo_weightQ HP)
                have y4 : decide (rt < L2) = false := decide_eq_false (by omega)
                have y5 : decide (rw_ < S2) = false := decide_eq_false (by omega)
                clear hL1 hS1
                go_upto_region 32 with fail
                go_quiet (first | (go_at_call 6; exact LQ.it _) | (go_at_call 7; exact WQ.it _))
                clear LQ WQ y1 y2 y3 c0 c1
                go_wp2_with fail
                all_goals first
                  | (exfalso; omega)
                  | skip
                go_roundw
                case rel => exact ⟨k + 1, pt', out2, L2, S2, q2, last2, own2, rfl, rfl, rfl, rfl, by go_num, by omega, ⟨hol2.it.symm, hol.it.2⟩, IV, Fo3.quiet HP ((Keeps.refl _ _).drewN _)⟩
                case measure => simp [intOf]; omega
end Go.Proofs.YtedjgkgffhapiaaDoor
