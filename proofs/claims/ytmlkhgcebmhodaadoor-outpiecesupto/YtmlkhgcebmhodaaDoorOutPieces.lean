/-
  OutPieces, walked.
-/
import Derived.Test.YtmlkhgcebmhodaaDoorOutPc
import Derived.Test.YtmlkhgcebmhodaaDoorOpenU
namespace Go.Proofs.YtmlkhgcebmhodaaDoor
open Go.RowKit

theorem pc_info : (Tryd.prog.info? 3).map (fun i => (i.zero, i.size, i.bytes)) = some (some (.int .i64 0), 1, 8) := by kernel_rfl
theorem room6 {k : Nat} (h : k < 1048576) : k * 1048588 ≤ 4398044413932 := by omega
set_option maxRecDepth 20000 in
set_option maxHeartbeats 4000000 in
theorem outPieces_walkU {A : Nat → Addr} (fv : Value) (zs : List FrV) (tv : Value) (ts : List Int) (w : World) (hs : Sents 106 codeVars A w) (hz : FramesArgU w fv zs) (ht : IntsArgU w tv ts) :
    Calls Tryd.prog 3 #[fv, tv] w fun e w' => e = .returned (.bool true) ∧ Below w.heap.size w w' := by
  obtain ⟨hlen, sa, sc, rfl, hlc, _, hat⟩ := hz
  obtain ⟨⟨ta, N, tc, rfl, hN, hta⟩, htl⟩ := ht
  rw [hN] at htl
  obtain ⟨M, hM⟩ : ∃ M, Aside (M = zs.length) := ⟨_, ⟨rfl⟩⟩
  rw [← hM.it] at hlen hlc ⊢
  have WK := Aside.mk (wakes_any hs)
  have G0 := Aside.mk (OnG.start hs)
  have HAT := Aside.mk (fun k hk => fr_read (A := A) hM.it hat k hk)
  have HTT := Aside.mk (fun k hk => int_read (A := A) hta k hk)
  have hM63 : (M : Int) ≤ 1048576 := by omega
  have hN63 : (N : Int) ≤ 1048576 := by omega
  clear hs hat hta hN hlc
  go_enter Tryd.func3, Tryd.ntmps3
  go_upto_region 7 with (first
    | (go_at_call 6; refine NB.it.mono ?_; rintro e w2 ⟨p, own2, rfl, X2⟩)
    | (go_at_call 5; refine WK.it.mono ?_; rintro e w1 ⟨rfl, b1⟩; have G1 := Aside.mk (G0.it.quiet (Keeps.ofBelow (S := Nowhere) b1)); have NB := Aside.mk (newB w1 (fun _ => 0) 1 2); clear b1)
    | fail)
  have P2 : Aside (Pc A w p [] 0 (.slice none 0 0) [] (.slice none 0 0) [] own2 w2) := ⟨X2.it.1, RowB.nil _ _ _, RowI.nil _ _ _, G1.it.sn X2.it.2 (fun x => x)⟩
  clear WK G0 NB X2 G1
  go_loopw [6, 7, 8] (fun av ev i wr => ∃ (k : Nat) (own : Nat → Nat) (rs : List (List Int)) (a : Option Addr) (L c : Nat) (a' : Option Addr) (R c' : Nat), av = .slice a L c ∧ ev = .slice a' R c' ∧ i = .int .i64 k ∧ k ≤ M ∧ Aside (L = rs.flatten.length ∧ R = rs.length ∧ Pc A w p rs (k * 1048588) (.slice a L c) rs.flatten (.slice a' R c') (endsOf rs 0) own wr)) (fun _ _ i _ => M - (intOf i).toNat)
  case atStart => exact ⟨0, own2, [], none, 0, 0, none, 0, 0, rfl, rfl, rfl, Nat.zero_le _, ⟨rfl, rfl, by rw [Nat.zero_mul]; exact P2.it⟩⟩
  case round =>
    obtain ⟨k, own, rs, a, L, c, a', R, c', rfl, rfl, rfl, hk, HP⟩ := hrel
    clear P2
    have i3 : (0 : Int) ≤ k := by omega
    rcases Nat.eq_or_lt_of_le hk with hkM | hlt
    · have hge : ¬ (k : Int) < M := by omega
      have hne := Aside.mk HP.it.2.2.buf.ne
      have hL := Aside.mk HP.it.1
      have hR := Aside.mk HP.it.2.1
      obtain ⟨T, hT, hT2⟩ : ∃ T, Aside (T = k * 1048588) ∧ Aside (T ≤ 4398046511103 ∧ L ≤ T ∧ R ≤ T) := ⟨_, ⟨rfl⟩, ⟨by omega, by rw [hL.it]; exact HP.it.2.2.buf.flat_le, by rw [hR.it]; exact HP.it.2.2.buf.len_le⟩⟩
      have P4 : Aside (Pc A w p (leftN rs 0) T (.slice a L c) rs.flatten (.slice a' R c') (endsOf rs 0) own wr) := ⟨by rw [leftN_zero _ hne.it, hT.it]; exact HP.it.2.2⟩
      have hL1 : (L : Int) ≤ 4398046511103 := by have := hT2.it; omega
      have hR1 : (R : Int) ≤ 4398046511103 := by have := hT2.it; omega
      clear HP hT
      go_upto_region 18 with fail
      go_loopw [12, 13] (fun av i wr => ∃ (t k2 : Nat) (own : Nat → Nat), av = .int .i64 t ∧ i = .int .i64 k2 ∧ t ≤ L ∧ k2 ≤ N ∧ Aside (Pc A w p (leftN rs t) T (.slice a L c) rs.flatten (.slice a' R c') (endsOf rs 0) own wr)) (fun _ i _ => N - (intOf i).toNat)
      case atStart => exact ⟨0, 0, own, rfl, rfl, Nat.zero_le _, Nat.zero_le _, P4⟩
      case round =>
        clear P4
        obtain ⟨t, k2, own2, rfl, rfl, htL, hk2, HP⟩ := hrel
        have j3 : (0 : Int) ≤ k2 := by omega
        have j5 : (0 : Int) ≤ t := by omega
        have j6 : (t : Int) ≤ L := by omega
        rcases Nat.eq_or_lt_of_le hk2 with hkN | hlt2
        · have hge2 : ¬ (k2 : Int) < N := by omega
          obtain ⟨D, hD⟩ : ∃ D, D = min (L : Int).toNat (rs.flatten.length - t) := ⟨_, rfl⟩
          have TK := Aside.mk (take_r (n := (L : Int)) rfl (by rw [← hL.it]; exact htL) hT2.it.1 hD HP)
          rw [← hL.it] at hD
          have hD' : D = L - t := by omega
          subst hD'
          have hGL : Aside (t + (L - t) ≤ rs.flatten.length) := ⟨by rw [← hL.it]; omega⟩
          have hE : Aside (leftN rs (t + (L - t)) = []) := ⟨leftN_all rs _ (by rw [← hL.it]; omega)⟩
          have hcL : L ≤ c := by
            obtain ⟨_, a0, c0, e, hl, _⟩ := owns_readsK HP.it.all.1
            injection e with _ e1 e2
            omega
          rw [hE.it] at TK
          clear hD HP
          go_upto_region 33 with (first | (go_at_call 11; refine TK.it.mono ?_; rintro e w5 ⟨xa, xc, own5, rfl, X5⟩) | fail)
          have P5 : Aside (Pf A w p T (.slice a L c) rs.flatten (.slice a' R c') (endsOf rs 0) (.slice xa (L - t) xc) ((rs.flatten.drop t).take (L - t)) own5 w5) := ⟨X5.it.1, X5.it.2⟩
          have P5d : Aside (Pf A w p T (.slice a L c) rs.flatten (.slice a' R c') (endsOf rs 0) (.slice xa (L - t) xc) ((rs.flatten.drop t).take (L - t)) own5 w5.drew) := ⟨P5.it.quiet (Keeps.refl _ _).drew⟩
          obtain ⟨S5, hS5⟩ : ∃ S5, S5 = strOf ((rs.flatten.drop t).take (L - t)) := ⟨_, rfl⟩
          have HS : Aside (∀ (own' : Nat → Nat) (w' : World), Aside (Pf A w p T (.slice a L c) rs.flatten (.slice a' R c') (endsOf rs 0) (.slice xa (L - t) xc) ((rs.flatten.drop t).take (L - t)) own' w') → (convert 27 9 (.slice xa (L - t) xc)).run Tryd.prog w' = .ok (.string S5) w' ∧ (convert 27 9 (.slice (if c = t then a else a.map (·.add t)) (L - t) (c - t))).run Tryd.prog w' = .ok (.string S5) w') := ⟨fun _ _ h => by rw [hS5]; exact Pf.strs h hGL.it⟩
          clear TK X5 hS5
          by_cases hct : c = t
          · rw [if_pos hct, show c - t = 0 by omega] at HS
            go_region_held_law (fun w' => (convert 27 9 (.slice xa (L - t) xc)).run Tryd.prog w' = .ok (.string S5) w' ∧ (convert 27 9 (.slice a (L - t) 0)).run Tryd.prog w' = .ok (.string S5) w') (exact HS.it _ _ (by with_reducible assumption)) (first
              | (go_at_call 12; with_reducible refine (len_0 (by with_reducible assumption)).mono ?_; rintro e w6 ⟨rfl, P6⟩)
              | (go_at_call 13; with_reducible refine (frames_0 (by with_reducible assumption)).mono ?_; rintro e w7 ⟨rfl, P7⟩)
              | (go_at_call 14; with_reducible refine (clear_0 (by with_reducible assumption)).mono ?_; rintro e w8 ⟨own8, rfl, P8⟩)
              | fail)
            go_wp2
            go_ret
            exact ⟨rfl, P8.it.pc.g.g.bel⟩
          · rw [if_neg hct] at HS
            go_region_held_law (fun w' => (convert 27 9 (.slice xa (L - t) xc)).run Tryd.prog w' = .ok (.string S5) w' ∧ (convert 27 9 (.slice (a.map (·.add t)) (L - t) (c - t))).run Tryd.prog w' = .ok (.string S5) w') (exact HS.it _ _ (by with_reducible assumption)) (first
              | (go_at_call 12; with_reducible refine (len_0 (by with_reducible assumption)).mono ?_; rintro e w6 ⟨rfl, P6⟩)
              | (go_at_call 13; with_reducible refine (frames_0 (by with_reducible assumption)).mono ?_; rintro e w7 ⟨rfl, P7⟩)
              | (go_at_call 14; with_reducible refine (clear_0 (by with_reducible assumption)).mono ?_; rintro e w8 ⟨own8, rfl, P8⟩)
              | fail)
            go_wp2
            go_ret
            exact ⟨rfl, P8.it.pc.g.g.bel⟩
        · obtain ⟨n, tb, to, rfl, hr⟩ := HTT.it k2 hlt2
          have r0 := hr _ _ HP.it.g
          have HR := Aside.mk hr
          have j2 : (k2 : Int) < N := by omega
          have j4 : (k2 : Int) ≤ 1048575 := by omega
          obtain ⟨G, hG⟩ : ∃ G, G = min n.toNat (rs.flatten.length - t) := ⟨_, rfl⟩
          have TK := Aside.mk (take_c (n := n) rfl (by rw [← hL.it]; exact htL) hT2.it.1 hG HP)
          rw [← hL.it] at hG
          have hGL : Aside (t + G ≤ rs.flatten.length) := ⟨by rw [← hL.it]; omega⟩
          obtain ⟨D, hD⟩ : ∃ D, D = L - t := ⟨_, rfl⟩
          have g0 : (0 : Int) ≤ G := by omega
          have g1 : (t : Int) + G ≤ L := by omega
          have hw : IntKind.i64.wrap ((L : Int) - t) = (D : Int) := by rw [IntWalk.i64_in _ (by omega)]; omega
          have hw2 : IntKind.i64.wrap ((t : Int) + G) = ((t + G : Nat) : Int) := by rw [IntWalk.i64_in _ (by omega)]; omega
          have hcL : L ≤ c := by
            obtain ⟨_, a0, c0, e, hl, _⟩ := owns_readsK HP.it.all.1
            injection e with _ e1 e2
            omega
          have s1 : t ≤ t + G := Nat.le_add_right _ _
          have s2 : t + G ≤ c := by omega
          have s3 : t + G - t = G := by omega
          have gA : decide (D < G) = false := decide_eq_false (by omega)
          have gB : n ≤ 0 → decide (0 < G) = false := fun h => decide_eq_false (by omega)
          have gC : ¬ n ≤ 0 → decide (n < (G : Int)) = false := fun h => decide_eq_false (by omega)
          have gD : G < D → decide ((G : Int) < n) = false := fun h => decide_eq_false (by omega)
          clear hr hG
          have hE1 : Aside ((leftN rs (t + G)).flatten.length = L - (t + G)) := ⟨by rw [leftN_flatten, List.length_drop, hL.it]⟩
          have hWt : Aside (cnt (endsOf rs 0) (t + G) R = (leftN rs (t + G)).length) := ⟨by rw [hR.it]; exact waits_all rs hne.it (t + G)⟩
          by_cases hn : n ≤ 0
          · have gB' := gB hn
            have hn1 : decide (n ≤ 0) = true := decide_eq_true hn
            have hn2 : decide (0 < n) = false := decide_eq_false (by omega)
            by_cases hd : G < D
            · have gD' := gD hd
              have hd1 : decide (G < D) = true := decide_eq_true hd
              clear gB gC gD hD
              go_upto_region 21 with (first | (go_at_call 11; refine TK.it.mono ?_; rintro e w5 ⟨xa, xc, own5, rfl, X5⟩; have r5 := HR.it _ _ X5.it.1.g; have sc1 := Pc.got X5; have sc2 := Pc.part (Aside.mk X5.it.1) hGL.it) | fail)
              go_quiet (fail)
              generalize (if c = t then a else Option.map (fun x => x.add t) a) = a86
              clear sc1 sc2 r5 r0 TK HP hw hw2 gA
              obtain ⟨W6, hW6⟩ : ∃ W6, W6 = w5.drewN nq := ⟨_, rfl⟩
              have P6 : Aside (Pc A w p (leftN rs (t + G)) T (.slice a L c) rs.flatten (.slice a' R c') (endsOf rs 0) own5 W6) := ⟨by rw [hW6]; exact X5.it.1.quiet ((Keeps.refl Nowhere w5).drewN nq)⟩
              rw [← hW6]
              clear hW6 X5
              have LN := Aside.mk (len_c P6)
              rw [hE1.it] at LN
              go_upto_region 26 with fail
              go_loopw [15, 16] (fun wv i wr => ∃ j : Nat, wv = .int .i64 (cnt (endsOf rs 0) (t + G) j) ∧ i = .int .i64 j ∧ j ≤ R ∧ wr = W6) (fun _ i _ => R - (intOf i).toNat)
              case atStart => exact ⟨0, by rw [cnt_zero]; rfl, rfl, Nat.zero_le _, rfl⟩
              case round =>
                obtain ⟨j, rfl, rfl, hj, rfl⟩ := hrel
                have m3 : (0 : Int) ≤ j := by omega
                rcases Nat.eq_or_lt_of_le hj with hjR | hjlt
                · have hge3 : ¬ (j : Int) < R := by omega
                  subst hjR
                  have FR := Aside.mk (fun W (h : Aside (Pc A w p (leftN rs (t + G)) T (.slice a L c) rs.flatten (.slice a' j c') (endsOf rs 0) own5 W)) => frames_c h)
                  rw [← hWt.it] at FR
                  go_wp2_with (first
                    | (go_at_call 13; refine (FR.it _ P7).mono ?_; rintro e w8 ⟨rfl, P8⟩)
                    | (go_at_call 12; refine LN.it.mono ?_; rintro e w7 ⟨rfl, P7⟩) | fail)
                  all_goals first
                    | (exfalso; omega)
                    | skip
                  go_roundw
                  case rel => exact ⟨t + G, k2 + 1, own5, by go_num, by go_num, by omega, by omega, P8⟩
                  case measure => simp [intOf]; omega
                · obtain ⟨e, he⟩ : ∃ e, (endsOf rs 0)[j]? = some e := ⟨_, List.getElem?_eq_getElem (by rw [endsOf_length, ← hR.it]; exact hjlt)⟩
                  obtain ⟨eg, ef, rfl, hce⟩ := Pc.endAt P6 j e he
                  have m2 : (j : Int) < R := by omega
                  have m4 : (j : Int) ≤ 4398046511102 := by omega
                  have hC0 := cnt_le (endsOf rs 0) (t + G) j
                  by_cases hgt : t + G < e
                  · have hc1 := Aside.mk (cnt_yes _ _ _ _ he hgt)
                    have hgt' : (t : Int) + G < e := by omega
                    obtain ⟨C, hC⟩ : ∃ C, C = cnt (endsOf rs 0) (t + G) j := ⟨_, rfl⟩
                    rw [← hC] at hc1 hC0 ⊢
                    have hC1 : (C : Int) ≤ 4398046511102 := by omega
                    clear hC he LN
                    go_wp2
                    all_goals first
                      | (exfalso; omega)
                      | skip
                    go_roundw
                    case rel => exact ⟨j + 1, by rw [hc1.it]; go_num, by go_num, by omega, trivial⟩
                    case measure => simp [intOf]; omega
                  · have hc1 := Aside.mk (cnt_no _ _ _ _ he hgt)
                    have hgt' : ¬ (t : Int) + G < e := by omega
                    clear he LN
                    go_wp2
                    all_goals first
                      | (exfalso; omega)
                      | skip
                    go_roundw
                    case rel => exact ⟨j + 1, by rw [hc1.it], by go_num, by omega, trivial⟩
                    case measure => simp [intOf]; omega
            · have hd1 : decide (G < D) = false := decide_eq_false hd
              clear gB gC gD hD
              go_upto_region 21 with (first | (go_at_call 11; refine TK.it.mono ?_; rintro e w5 ⟨xa, xc, own5, rfl, X5⟩; have r5 := HR.it _ _ X5.it.1.g; have sc1 := Pc.got X5; have sc2 := Pc.part (Aside.mk X5.it.1) hGL.it) | fail)
              go_quiet (fail)
              generalize (if c = t then a else Option.map (fun x => x.add t) a) = a86
              clear sc1 sc2 r5 r0 TK HP hw hw2 gA
              obtain ⟨W6, hW6⟩ : ∃ W6, W6 = w5.drewN nq := ⟨_, rfl⟩
              have P6 : Aside (Pc A w p (leftN rs (t + G)) T (.slice a L c) rs.flatten (.slice a' R c') (endsOf rs 0) own5 W6) := ⟨by rw [hW6]; exact X5.it.1.quiet ((Keeps.refl Nowhere w5).drewN nq)⟩
              rw [← hW6]
              clear hW6 X5
              have LN := Aside.mk (len_c P6)
              rw [hE1.it] at LN
              go_upto_region 26 with fail
              go_loopw [15, 16] (fun wv i wr => ∃ j : Nat, wv = .int .i64 (cnt (endsOf rs 0) (t + G) j) ∧ i = .int .i64 j ∧ j ≤ R ∧ wr = W6) (fun _ i _ => R - (intOf i).toNat)
              case atStart => exact ⟨0, by rw [cnt_zero]; rfl, rfl, Nat.zero_le _, rfl⟩
              case round =>
                obtain ⟨j, rfl, rfl, hj, rfl⟩ := hrel
                have m3 : (0 : Int) ≤ j := by omega
                rcases Nat.eq_or_lt_of_le hj with hjR | hjlt
                · have hge3 : ¬ (j : Int) < R := by omega
                  subst hjR
                  have FR := Aside.mk (fun W (h : Aside (Pc A w p (leftN rs (t + G)) T (.slice a L c) rs.flatten (.slice a' j c') (endsOf rs 0) own5 W)) => frames_c h)
                  rw [← hWt.it] at FR
                  go_wp2_with (first
                    | (go_at_call 13; refine (FR.it _ P7).mono ?_; rintro e w8 ⟨rfl, P8⟩)
                    | (go_at_call 12; refine LN.it.mono ?_; rintro e w7 ⟨rfl, P7⟩) | fail)
                  all_goals first
                    | (exfalso; omega)
                    | skip
                  go_roundw
                  case rel => exact ⟨t + G, k2 + 1, own5, by go_num, by go_num, by omega, by omega, P8⟩
                  case measure => simp [intOf]; omega
                · obtain ⟨e, he⟩ : ∃ e, (endsOf rs 0)[j]? = some e := ⟨_, List.getElem?_eq_getElem (by rw [endsOf_length, ← hR.it]; exact hjlt)⟩
                  obtain ⟨eg, ef, rfl, hce⟩ := Pc.endAt P6 j e he
                  have m2 : (j : Int) < R := by omega
                  have m4 : (j : Int) ≤ 4398046511102 := by omega
                  have hC0 := cnt_le (endsOf rs 0) (t + G) j
                  by_cases hgt : t + G < e
                  · have hc1 := Aside.mk (cnt_yes _ _ _ _ he hgt)
                    have hgt' : (t : Int) + G < e := by omega
                    obtain ⟨C, hC⟩ : ∃ C, C = cnt (endsOf rs 0) (t + G) j := ⟨_, rfl⟩
                    rw [← hC] at hc1 hC0 ⊢
                    have hC1 : (C : Int) ≤ 4398046511102 := by omega
                    clear hC he LN
                    go_wp2
                    all_goals first
                      | (exfalso; omega)
                      | skip
                    go_roundw
                    case rel => exact ⟨j + 1, by rw [hc1.it]; go_num, by go_num, by omega, trivial⟩
                    case measure => simp [intOf]; omega
                  · have hc1 := Aside.mk (cnt_no _ _ _ _ he hgt)
                    have hgt' : ¬ (t : Int) + G < e := by omega
                    clear he LN
                    go_wp2
                    all_goals first
                      | (exfalso; omega)
                      | skip
                    go_roundw
                    case rel => exact ⟨j + 1, by rw [hc1.it], by go_num, by omega, trivial⟩
                    case measure => simp [intOf]; omega
          · have gC' := gC hn
            have hn1 : decide (n ≤ 0) = false := decide_eq_false hn
            have hn2 : decide (0 < n) = true := decide_eq_true (by omega)
            by_cases hd : G < D
            · have gD' := gD hd
              have hd1 : decide (G < D) = true := decide_eq_true hd
              clear gB gC gD hD
              go_upto_region 21 with (first | (go_at_call 11; refine TK.it.mono ?_; rintro e w5 ⟨xa, xc, own5, rfl, X5⟩; have r5 := HR.it _ _ X5.it.1.g; have sc1 := Pc.got X5; have sc2 := Pc.part (Aside.mk X5.it.1) hGL.it) | fail)
              go_quiet (fail)
              generalize (if c = t then a else Option.map (fun x => x.add t) a) = a86
              clear sc1 sc2 r5 r0 TK HP hw hw2 gA
              obtain ⟨W6, hW6⟩ : ∃ W6, W6 = w5.drewN nq := ⟨_, rfl⟩
              have P6 : Aside (Pc A w p (leftN rs (t + G)) T (.slice a L c) rs.flatten (.slice a' R c') (endsOf rs 0) own5 W6) := ⟨by rw [hW6]; exact X5.it.1.quiet ((Keeps.refl Nowhere w5).drewN nq)⟩
              rw [← hW6]
              clear hW6 X5
              have LN := Aside.mk (len_c P6)
              rw [hE1.it] at LN
              go_upto_region 26 with fail
              go_loopw [15, 16] (fun wv i wr => ∃ j : Nat, wv = .int .i64 (cnt (endsOf rs 0) (t + G) j) ∧ i = .int .i64 j ∧ j ≤ R ∧ wr = W6) (fun _ i _ => R - (intOf i).toNat)
              case atStart => exact ⟨0, by rw [cnt_zero]; rfl, rfl, Nat.zero_le _, rfl⟩
              case round =>
                obtain ⟨j, rfl, rfl, hj, rfl⟩ := hrel
                have m3 : (0 : Int) ≤ j := by omega
                rcases Nat.eq_or_lt_of_le hj with hjR | hjlt
                · have hge3 : ¬ (j : Int) < R := by omega
                  subst hjR
                  have FR := Aside.mk (fun W (h : Aside (Pc A w p (leftN rs (t + G)) T (.slice a L c) rs.flatten (.slice a' j c') (endsOf rs 0) own5 W)) => frames_c h)
                  rw [← hWt.it] at FR
                  go_wp2_with (first
                    | (go_at_call 13; refine (FR.it _ P7).mono ?_; rintro e w8 ⟨rfl, P8⟩)
                    | (go_at_call 12; refine LN.it.mono ?_; rintro e w7 ⟨rfl, P7⟩) | fail)
                  all_goals first
                    | (exfalso; omega)
                    | skip
                  go_roundw
                  case rel => exact ⟨t + G, k2 + 1, own5, by go_num, by go_num, by omega, by omega, P8⟩
                  case measure => simp [intOf]; omega
                · obtain ⟨e, he⟩ : ∃ e, (endsOf rs 0)[j]? = some e := ⟨_, List.getElem?_eq_getElem (by rw [endsOf_length, ← hR.it]; exact hjlt)⟩
                  obtain ⟨eg, ef, rfl, hce⟩ := Pc.endAt P6 j e he
                  have m2 : (j : Int) < R := by omega
                  have m4 : (j : Int) ≤ 4398046511102 := by omega
                  have hC0 := cnt_le (endsOf rs 0) (t + G) j
                  by_cases hgt : t + G < e
                  · have hc1 := Aside.mk (cnt_yes _ _ _ _ he hgt)
                    have hgt' : (t : Int) + G < e := by omega
                    obtain ⟨C, hC⟩ : ∃ C, C = cnt (endsOf rs 0) (t + G) j := ⟨_, rfl⟩
                    rw [← hC] at hc1 hC0 ⊢
                    have hC1 : (C : Int) ≤ 4398046511102 := by omega
                    clear hC he LN
                    go_wp2
                    all_goals first
                      | (exfalso; omega)
                      | skip
                    go_roundw
                    case rel => exact ⟨j + 1, by rw [hc1.it]; go_num, by go_num, by omega, trivial⟩
                    case measure => simp [intOf]; omega
                  · have hc1 := Aside.mk (cnt_no _ _ _ _ he hgt)
                    have hgt' : ¬ (t : Int) + G < e := by omega
                    clear he LN
                    go_wp2
                    all_goals first
                      | (exfalso; omega)
                      | skip
                    go_roundw
                    case rel => exact ⟨j + 1, by rw [hc1.it], by go_num, by omega, trivial⟩
                    case measure => simp [intOf]; omega
            · have hd1 : decide (G < D) = false := decide_eq_false hd
              clear gB gC gD hD
              go_upto_region 21 with (first | (go_at_call 11; refine TK.it.mono ?_; rintro e w5 ⟨xa, xc, own5, rfl, X5⟩; have r5 := HR.it _ _ X5.it.1.g; have sc1 := Pc.got X5; have sc2 := Pc.part (Aside.mk X5.it.1) hGL.it) | fail)
              go_quiet (fail)
              generalize (if c = t then a else Option.map (fun x => x.add t) a) = a86
              clear sc1 sc2 r5 r0 TK HP hw hw2 gA
              obtain ⟨W6, hW6⟩ : ∃ W6, W6 = w5.drewN nq := ⟨_, rfl⟩
              have P6 : Aside (Pc A w p (leftN rs (t + G)) T (.slice a L c) rs.flatten (.slice a' R c') (endsOf rs 0) own5 W6) := ⟨by rw [hW6]; exact X5.it.1.quiet ((Keeps.refl Nowhere w5).drewN nq)⟩
              rw [← hW6]
              clear hW6 X5
              have LN := Aside.mk (len_c P6)
              rw [hE1.it] at LN
              go_upto_region 26 with fail
              go_loopw [15, 16] (fun wv i wr => ∃ j : Nat, wv = .int .i64 (cnt (endsOf rs 0) (t + G) j) ∧ i = .int .i64 j ∧ j ≤ R ∧ wr = W6) (fun _ i _ => R - (intOf i).toNat)
              case atStart => exact ⟨0, by rw [cnt_zero]; rfl, rfl, Nat.zero_le _, rfl⟩
              case round =>
                obtain ⟨j, rfl, rfl, hj, rfl⟩ := hrel
                have m3 : (0 : Int) ≤ j := by omega
                rcases Nat.eq_or_lt_of_le hj with hjR | hjlt
                · have hge3 : ¬ (j : Int) < R := by omega
                  subst hjR
                  have FR := Aside.mk (fun W (h : Aside (Pc A w p (leftN rs (t + G)) T (.slice a L c) rs.flatten (.slice a' j c') (endsOf rs 0) own5 W)) => frames_c h)
                  rw [← hWt.it] at FR
                  go_wp2_with (first
                    | (go_at_call 13; refine (FR.it _ P7).mono ?_; rintro e w8 ⟨rfl, P8⟩)
                    | (go_at_call 12; refine LN.it.mono ?_; rintro e w7 ⟨rfl, P7⟩) | fail)
                  all_goals first
                    | (exfalso; omega)
                    | skip
                  go_roundw
                  case rel => exact ⟨t + G, k2 + 1, own5, by go_num, by go_num, by omega, by omega, P8⟩
                  case measure => simp [intOf]; omega
                · obtain ⟨e, he⟩ : ∃ e, (endsOf rs 0)[j]? = some e := ⟨_, List.getElem?_eq_getElem (by rw [endsOf_length, ← hR.it]; exact hjlt)⟩
                  obtain ⟨eg, ef, rfl, hce⟩ := Pc.endAt P6 j e he
                  have m2 : (j : Int) < R := by omega
                  have m4 : (j : Int) ≤ 4398046511102 := by omega
                  have hC0 := cnt_le (endsOf rs 0) (t + G) j
                  by_cases hgt : t + G < e
                  · have hc1 := Aside.mk (cnt_yes _ _ _ _ he hgt)
                    have hgt' : (t : Int) + G < e := by omega
                    obtain ⟨C, hC⟩ : ∃ C, C = cnt (endsOf rs 0) (t + G) j := ⟨_, rfl⟩
                    rw [← hC] at hc1 hC0 ⊢
                    have hC1 : (C : Int) ≤ 4398046511102 := by omega
                    clear hC he LN
                    go_wp2
                    all_goals first
                      | (exfalso; omega)
                      | skip
                    go_roundw
                    case rel => exact ⟨j + 1, by rw [hc1.it]; go_num, by go_num, by omega, trivial⟩
                    case measure => simp [intOf]; omega
                  · have hc1 := Aside.mk (cnt_no _ _ _ _ he hgt)
                    have hgt' : ¬ (t : Int) + G < e := by omega
                    clear he LN
                    go_wp2
                    all_goals first
                      | (exfalso; omega)
                      | skip
                    go_roundw
                    case rel => exact ⟨j + 1, by rw [hc1.it], by go_num, by omega, trivial⟩
                    case measure => simp [intOf]; omega
    · obtain ⟨z, sb, so, rfl, hok, hrd, hns, hr⟩ := HAT.it k hlt
      obtain ⟨⟨v, t, f, s, l⟩, sl, ns⟩ := z
      simp only at hrd hns hr
      obtain ⟨⟨hv0, hv1⟩, ⟨ht0, ht1⟩, ⟨hf0, hf1⟩, ⟨hs0, hs1⟩, hl0, hl1⟩ := hok
      simp only at hv0 hv1 ht0 ht1 hf0 hf1 hs0 hs1 hl0 hl1
      have HR := Aside.mk hr
      have HRD := Aside.mk hrd
      have HNS := Aside.mk hns
      have HTO := Aside.mk (room6 (k := k) (by omega))
      have HB := Aside.mk (⟨hf0, hf1, hs0, hs1, hl0, hl1⟩ : 0 ≤ f ∧ f ≤ 65535 ∧ 0 ≤ s ∧ s ≤ 4294967295 ∧ 0 ≤ l ∧ l ≤ 4294967295)
      have P3 := Aside.mk HP.it.2.2
      obtain ⟨r0, r1, r2, r3, r4, r5⟩ := hr _ _ P3.it.g
      have i2 : (k : Int) < M := by omega
      have i4 : (k : Int) ≤ 1048575 := by omega
      clear hr hrd hns hv0 hv1 ht0 ht1 hf0 hf1 hs0 hs1 hl0 hl1
      by_cases hok : (ns.length : Int) = szH t l
      · have HOK := Aside.mk hok
        clear hok
        go_upto_region 14 with (first
          | (go_at_call 8; with_reducible refine (copied_d (by with_reducible assumption) HRD.it HNS.it).mono ?_; rintro e w5 ⟨d5, rfl, R5⟩)
          | (go_at_call 8; with_reducible refine (copied_c P3 HRD.it HNS.it).mono ?_; rintro e w3 ⟨d3, rfl, R3⟩)
          | (go_at_call 7; with_reducible refine (bytes_ok R3 HNS.it HB.it.1 HB.it.2.1 HB.it.2.2.1 HB.it.2.2.2.1 HB.it.2.2.2.2.1 HB.it.2.2.2.2.2 HOK.it).mono ?_; rintro e w4 ⟨x4, own4, rfl, R4⟩; obtain ⟨q0, q1, q2, q3, q4, q5⟩ := HR.it _ _ R4.it.1.g)
          | (go_at_call 9; with_reducible refine (put_c_ok R5 HNS.it HB.it.1 HB.it.2.1 HB.it.2.2.1 HB.it.2.2.2.1 HB.it.2.2.2.2.1 HB.it.2.2.2.2.2 HOK.it HTO.it).mono ?_; rintro e w6 ⟨own6, rfl, R6⟩)
          | (go_at_call 10; with_reducible refine (code_d ⟨Coded.none⟩ (by with_reducible assumption)).mono ?_; rintro e w' ⟨rfl, rfl⟩)
          | fail)
        have RX := Aside.mk R6.it.x.1
        have OA := Aside.mk R6.it.pc.all.1
        obtain ⟨r, hr'⟩ : ∃ r, Aside (r = enc v t f s l ++ ns) := ⟨_, ⟨rfl⟩⟩
        rw [← hr'.it] at R6 RX
        have HF : Aside ((rs ++ [r]).flatten.length ≤ k * 1048588 + 1048588 ∧ (rs ++ [r]).length ≤ k * 1048588 + 1048588) := ⟨R6.it.pc.buf.flat_le, R6.it.pc.buf.len_le⟩
        have hbig : Aside (rs.flatten.length + r.length ≤ 140737488355328) := ⟨by have h1 := HF.it.1; have h2 := HTO.it; rw [List.flatten_append, List.length_append] at h1; simp at h1; simp; omega⟩
        clear q0 q1 q2 q3 q4 q5 r0 r1 r2 r3 r4 r5 R3 R4 R5 P3
        go_upto_region 15 with (at_builtin; refine wpList_appendO rfl (.tmp 50) (.tmp 51) rfl (.slice a L c) x4 rs.flatten r OA.it RX.it hbig.it rfl rfl ?_; intro q7 l7 c7 w7 o7 k7 b7)
        have R7 := Pd.grow R6 o7 k7 b7
        obtain ⟨own7, R7⟩ : ∃ own7, Aside (Pc A w p (rs ++ [r]) (k * 1048588 + 1048588) (.slice q7 l7 c7) (rs.flatten ++ r) (.slice a' R c') (endsOf rs 0) own7 w7) := ⟨_, R7⟩
        have hl7 : Aside (l7 = (rs ++ [r]).flatten.length) := ⟨by obtain ⟨_, _, e⟩ := R7.it.all.shape; injection e with _ e _; rw [e]; simp⟩
        have E7 := Aside.mk R7.it.ends.1
        have hb7 : Aside (((endsOf rs 0).length + 1) * 8 ≤ 140737488355328) := ⟨by have h1 := HF.it.2; have h2 := HTO.it; rw [endsOf_length]; simp at h1; omega⟩
        clear RX OA hbig R6 o7 k7 b7
        go_upto_region 8 with (at_builtin; refine wpList_appendR rfl (.tmp 53) (.tmp 56) 23 rfl 3 (.int .i64 0) 1 8 Tryd.underlying23 pc_info rfl (by decide) w7 ((Keeps.refl _ _).alloc _) 0 (.slice a' R c') (endsOf rs 0).length (nv (endsOf rs 0)) E7.it _ 1 [.int .i64 l7] (readsK_new _ _ [.int .i64 l7]) (by intro u hu; rw [List.mem_singleton.1 hu]; rfl) hb7.it (by unfold maxLen; have := hb7.it; omega) (Nat.zero_le _) rfl rfl ?_; intro v9 w9 o9 k9 b9)
        have R8 := Aside.mk (R7.it.sn0 (Sn.quiet ((Keeps.refl Nowhere w7).alloc (.cells #[.int .i64 l7] 3)) 7))
        obtain ⟨own9, R9⟩ : ∃ own9, Aside (Pc A w p (rs ++ [r]) (k * 1048588 + 1048588) (.slice q7 l7 c7) (rs.flatten ++ r) v9 (endsOf rs 0 ++ [l7]) own9 w9) := ⟨_, Pc.endsGrow R8 o9 k9 b9⟩
        obtain ⟨q9, c9, hv9⟩ := R9.it.ends.shape
        rw [hv9] at R9
        subst hv9
        clear o9 k9 b9 R8 R7 E7 hb7
        go_wp2_with fail
        go_roundw
        case rel =>
          refine ⟨k + 1, own9, rs ++ [r], q7, l7, c7, q9, _, c9, rfl, rfl, by go_num, by omega, ⟨hl7.it, ?_, ?_⟩⟩
          · simp [endsOf_length]
          · have e1 : rs.flatten ++ r = (rs ++ [r]).flatten := by simp
            have e2 : endsOf rs 0 ++ [l7] = endsOf (rs ++ [r]) 0 := by rw [endsOf_snoc, hl7.it, Nat.zero_add]
            have R10 := R9.it
            rw [e1] at R10
            rw [← e2, Nat.succ_mul]
            exact R10
        case measure => simp [intOf]; omega
      · have HBAD := Aside.mk hok
        clear hok
        go_upto_region 8 with (first
          | (go_at_call 8; with_reducible refine (copied_d (by with_reducible assumption) HRD.it HNS.it).mono ?_; rintro e w5 ⟨d5, rfl, R5⟩)
          | (go_at_call 8; with_reducible refine (copied_c P3 HRD.it HNS.it).mono ?_; rintro e w3 ⟨d3, rfl, R3⟩)
          | (go_at_call 7; with_reducible refine (bytes_bad R3 HNS.it HB.it.1 HB.it.2.1 HB.it.2.2.1 HB.it.2.2.2.1 HB.it.2.2.2.2.1 HB.it.2.2.2.2.2 HBAD.it).mono ?_; rintro e w4 ⟨x4, a4, own4, rfl, hc4, R4⟩; obtain ⟨q0, q1, q2, q3, q4, q5⟩ := HR.it _ _ R4.it.pc.g)
          | (go_at_call 9; with_reducible refine (put_c_bad R5 HNS.it HB.it.1 HB.it.2.1 HB.it.2.2.1 HB.it.2.2.2.1 HB.it.2.2.2.2.1 HB.it.2.2.2.2.2 HBAD.it).mono ?_; rintro e w6 ⟨er6, rfl, hc6, R6⟩)
          | (go_at_call 10; with_reducible refine (code_d (by with_reducible assumption) (by with_reducible assumption)).mono ?_; rintro e w' ⟨rfl, rfl⟩)
          | fail)
        go_wp2_with fail
        go_roundw
        case rel => exact ⟨k + 1, own4, rs, a, L, c, a', R, c', rfl, rfl, by go_num, by omega, ⟨HP.it.1, HP.it.2.1, by rw [Nat.succ_mul]; exact R6.it.pc⟩⟩
        case measure => simp [intOf]; omega
end Go.Proofs.YtmlkhgcebmhodaaDoor
