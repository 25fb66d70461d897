/-
  FifoApart
-/
import Derived.Test.YtgfgnabjffokjaaDoorFifoTwo
import Derived.Deep.DeepCutAuto
namespace Go.Proofs.YtgfgnabjffokjaaDoor
open Go.RowKit Fint

set_option maxHeartbeats 16000000 in
theorem fifoApart_walk {A : Nat → Addr} (one : Value) (xs : List OpV3) (other : Value) (ys : List OpV3) (w : World) (hs : Sents 133 codeVars A w) (ho : OpsAt3 w one xs) (ho2 : OpsAt3 w other ys) :
    Calls Tryd.prog 8 #[one, other] w fun e w' => e = .returned (.bool true) ∧ Below w.heap.size w w' := by
  obtain ⟨⟨sa, scap, rfl, hlc, hm, hop⟩, hlen⟩ := ho
  obtain ⟨⟨sa2, scap2, rfl, hlc2, hm2, hop2⟩, hlen2⟩ := ho2
  obtain ⟨M, hM⟩ : ∃ M, M = xs.length := ⟨_, rfl⟩
  obtain ⟨M2, hM2⟩ : ∃ M2, M2 = ys.length := ⟨_, rfl⟩
  rw [← hM] at hlc hlen ⊢
  rw [← hM2] at hlc2 hlen2 ⊢
  have HM : Aside _ := ⟨hM⟩
  have HOP : Aside _ := ⟨hop⟩
  have HM2 : Aside _ := ⟨hM2⟩
  have HOP2 : Aside _ := ⟨hop2⟩
  have HS0 : Aside _ := ⟨hs⟩
  clear hM hop hm hM2 hop2 hm2 hs
  go_enter Tryd.func8, Tryd.ntmps8
  go_wp2_with fail
  refine (wakes_ok w HS0.it).mono ?_
  rintro e w1 ⟨rfl, k1⟩
  go_wp2_with fail
  refine (new_o w1 6 40 (by decide) (by decide) (fun _ => 0) 1).mono ?_
  rintro e w2 ⟨p, rfl, f2, k2⟩
  go_wp2_with fail
  refine (new_o w2 3 100 (by decide) (by decide) (give (fun _ => 0) w1.heap.size 1) 3).mono ?_
  rintro e w3 ⟨p2, rfl, g3, k3⟩
  go_wp2_with fail
  refine (refNew_good w3 6 40).mono ?_
  rintro e w4 ⟨rfl, k4⟩
  go_upto_region 8 with fail
  obtain ⟨w5, hw5⟩ : ∃ w5, w5 = w4.alloc (.cells #[.int .i64 6, .int .i64 40, .slice none 0 0] 33) := ⟨_, rfl⟩
  rw [← hw5]
  have X5 : Aside (Cells w5 w4.heap.size 33 [.int .i64 6, .int .i64 40, .slice none 0 0] ∧ Keeps Nowhere w4 w5) := ⟨by rw [hw5]; exact ⟨Cells.new w4 _ _, (Keeps.refl _ _).alloc _⟩⟩
  clear hw5
  go_wp2_with fail
  refine (refNew_good w5 3 100).mono ?_
  rintro e w6 ⟨rfl, k6⟩
  go_upto_region 9 with fail
  obtain ⟨w7, hw7⟩ : ∃ w7, w7 = w6.alloc (.cells #[.int .i64 3, .int .i64 100, .slice none 0 0] 33) := ⟨_, rfl⟩
  rw [← hw7]
  have X7 : Aside (Cells w7 w6.heap.size 33 [.int .i64 3, .int .i64 100, .slice none 0 0] ∧ Keeps Nowhere w6 w7) := ⟨by rw [hw7]; exact ⟨Cells.new w6 _ _, (Keeps.refl _ _).alloc _⟩⟩
  clear hw7
  have PL : Aside (w4.heap.size ≠ w6.heap.size ∧ ∃ own, PlayAt w own 1 2 w7 p 6 40 w4.heap.size none 0 [] ∧ PlayAt w own 3 4 w7 p2 3 100 w6.heap.size none 0 []) := ⟨by
    have k57 : Keeps Nowhere w5 w7 := k6.it.trans X7.it.2
    have k37 : Keeps Nowhere w3 w7 := (k4.it.trans X5.it.2).trans k57
    have kw : Keeps Nowhere w w3 := ((Keeps.ofBelow k1.it).trans k2.it).trans k3.it
    have s1 := k1.it.size
    have s2 := k2.it.size
    have s3 := k3.it.size
    have s4 := k4.it.size
    have s5 := X5.it.1.lt
    have s6 := k6.it.size
    refine ⟨by omega, give (give (give (fun _ => 0) w1.heap.size 1) w2.heap.size 3) w3.heap.size 0, ?_, ?_⟩
    · refine ⟨⟨((f2.it.quiet k3.it |> fun h => ?_)), readsK_nil w7, fun k hk => by cases hk⟩, ?_, ⟨X5.it.1.later k57 (fun x => x), give_new (by omega)⟩, by omega⟩
      · have h3 := f2.it.others (i := 3) (k3.it.any) (by decide) 3
        exact (h3.gave 0).quiet k37
      · exact (((Ground.quiet ⟨fun _ _ => rfl, Below.refl _ _, Nat.le_refl _⟩ (kw.trans k37)).give _ _ s1).give _ _ (by omega)).give _ _ (by omega)
    · refine ⟨⟨(g3.it.gave 0).quiet k37, readsK_nil w7, fun k hk => by cases hk⟩, ?_, ⟨X7.it.1, give_new (by omega)⟩, by omega⟩
      exact (((Ground.quiet ⟨fun _ _ => rfl, Below.refl _ _, Nat.le_refl _⟩ (kw.trans k37)).give _ _ s1).give _ _ (by omega)).give _ _ (by omega)⟩
  obtain ⟨bq, hbq⟩ : ∃ bq, bq = w4.heap.size := ⟨_, rfl⟩
  obtain ⟨bq2, hbq2⟩ : ∃ bq2, bq2 = w6.heap.size := ⟨_, rfl⟩
  rw [← hbq, ← hbq2] at PL
  rw [← hbq, ← hbq2]
  have hbb : bq ≠ bq2 := PL.it.1
  clear hbq hbq2 X5 X7 f2 g3 k1 k2 k3 k4 k6
  go_wp2_with fail
  go_loopw [13] (fun i wr => ∃ (k : Nat) (own : Nat → Nat) (a : Option Addr) (c : Nat) (q : Things) (a2 : Option Addr) (c2 : Nat) (q2 : Things), i = .int .i64 k ∧ (k ≤ M ∨ k ≤ M2) ∧ Aside (q.length ≤ k ∧ q2.length ≤ k) ∧ Aside (PlayAt w own 1 2 wr p 6 40 bq a c q ∧ PlayAt w own 3 4 wr p2 3 100 bq2 a2 c2 q2)) (fun i _ => M + M2 - (intOf i).toNat)
  case atStart =>
    obtain ⟨_, own, h1, h2⟩ := PL.it
    exact ⟨0, own, none, 0, [], none, 0, [], rfl, .inl (Nat.zero_le _), ⟨Nat.le_refl _, Nat.le_refl _⟩, ⟨h1, h2⟩⟩
  case round =>
    obtain ⟨k, own, a, c, q, a2, c2, q2, rfl, hk, hql, HP⟩ := hrel
    have hqA : Aside (q.length ≤ 4398046511103 ∧ q2.length ≤ 4398046511103) := ⟨by have := hql.it; omega⟩
    obtain ⟨N, hN⟩ : ∃ N, N = q.length := ⟨_, rfl⟩
    obtain ⟨N2, hN2⟩ : ∃ N2, N2 = q2.length := ⟨_, rfl⟩
    have HN : Aside _ := ⟨hN⟩
    have HN2 : Aside _ := ⟨hN2⟩
    have b0 : wr.cell? ⟨bq, 0, none⟩ = some (.int .i64 6) := by rw [HP.it.1.box.1.cell]; rfl
    have b1 : wr.cell? ⟨bq, 1, none⟩ = some (.int .i64 40) := by rw [HP.it.1.box.1.cell]; rfl
    have b2 : wr.cell? ⟨bq, 2, none⟩ = some (.slice a N c) := by rw [HP.it.1.box.1.cell, hN]; rfl
    have c0 : wr.cell? ⟨bq2, 0, none⟩ = some (.int .i64 3) := by rw [HP.it.2.box.1.cell]; rfl
    have c1 : wr.cell? ⟨bq2, 1, none⟩ = some (.int .i64 100) := by rw [HP.it.2.box.1.cell]; rfl
    have c2' : wr.cell? ⟨bq2, 2, none⟩ = some (.slice a2 N2 c2) := by rw [HP.it.2.box.1.cell, hN2]; rfl
    clear hN hN2 PL
    by_cases hA : k < M
    · have hA' : (k : Int) < M := by omega
      obtain ⟨op1, hop1⟩ : ∃ op, xs[k]? = some op := ⟨_, List.getElem?_eq_getElem (by rw [← HM.it]; omega)⟩
      obtain ⟨sb1, so1, ws1, rfl, s0, s1, s2, s3, hrd, hrl⟩ := HOP.it k op1 hop1
      have t0 := HP.it.1.ground.cell rfl s0
      have t1 := HP.it.1.ground.cell rfl s1
      have t2 := HP.it.1.ground.cell rfl s2
      have t3 := HP.it.1.ground.cell rfl s3
      have ST := play_step HS0.it HP.it.1 (by decide) (by decide) (by decide) hqA.it.1 op1 ws1 hrd hrl wr.drew (Keeps.refl Nowhere wr).drew
      rw [← HN.it] at ST
      obtain ⟨wa1, wc1, hws, _⟩ := hrd
      subst hws
      have hnl1 : Aside ((nextQ 6 40 q op1).length ≤ k + 1) := ⟨by have := next_len 6 40 q op1; have := hql.it; omega⟩
      obtain ⟨L1, hL⟩ : ∃ L, L = (nextQ 6 40 q op1).length := ⟨_, rfl⟩
      rw [← hL] at ST
      have STH1 := hide ST
      have HL1 : Aside _ := ⟨hL⟩
      clear s0 s1 s2 s3 hop1 hrl ST hL
      go_upto_region 14 with fail
      all_goals first
        | (exfalso; omega)
        | skip
      go_cut [14] from 47 to 91 (fun ok wx => ok = .bool true ∧ ∃ (own' : Nat → Nat) (n0 : Option Addr) (n2 : Nat), Aside (PlayAt w own' 1 2 wx p 6 40 bq n0 n2 (nextQ 6 40 q op1) ∧ PlayAt w own' 3 4 wx p2 3 100 bq2 a2 c2 q2))
      · go_region_with ((go_at_call 13; refine STH1.out.mono ?_; rintro e w6 ⟨n01, n21, own', rfl, bo1, gr1, bx1, si1, nb1⟩; have m0 : w6.cell? ⟨bq, 0, none⟩ = some (.int .i64 6) := (by rw [bx1.it.1.cell]; rfl); have m1 : w6.cell? ⟨bq, 1, none⟩ = some (.int .i64 40) := (by rw [bx1.it.1.cell]; rfl); have m2 : w6.cell? ⟨bq, 2, none⟩ = some (.slice a N c) := (by rw [bx1.it.1.cell]; rfl); have z0 := bx1.it.1.frozen 0; have z1 := bx1.it.1.frozen 1; have z2 := bx1.it.1.frozen 2))
        all_goals
          have bo' := bo1.it
          rw [HL1.it] at bo'
          have TW : Aside _ := ⟨two_step HP.it.1 HP.it.2 (by decide) (by decide) (by decide) (by decide) (by decide) (by decide) hbb.symm bo' gr1.it bx1.it si1.it L1 HL1.it rfl rfl⟩
          clear bo'
          go_wp2
          go_meet
          exact ⟨rfl, _, _, _, TW⟩
      · obtain ⟨rfl, own', n01, n21, TW1⟩ := hcut
        clear b0 b1 b2 c0 c1 c2' t0 t1 t2 t3
        obtain ⟨W7, hW7⟩ : ∃ W7, W7 = wc := ⟨_, rfl⟩
        rw [← hW7] at TW1 ⊢
        clear hW7
        have c0 : W7.cell? ⟨bq2, 0, none⟩ = some (.int .i64 3) := by rw [TW1.it.2.box.1.cell]; rfl
        have c1 : W7.cell? ⟨bq2, 1, none⟩ = some (.int .i64 100) := by rw [TW1.it.2.box.1.cell]; rfl
        have c2' : W7.cell? ⟨bq2, 2, none⟩ = some (.slice a2 N2 c2) := by rw [TW1.it.2.box.1.cell, HN2.it]; rfl
        by_cases hB : k < M2
        · have hB' : (k : Int) < M2 := by omega
          obtain ⟨op2, hop2⟩ : ∃ op, ys[k]? = some op := ⟨_, List.getElem?_eq_getElem (by rw [← HM2.it]; omega)⟩
          obtain ⟨sb2, so2, ws2, rfl, s0, s1, s2, s3, hrd, hrl⟩ := HOP2.it k op2 hop2
          have t0 := TW1.it.2.ground.cell rfl s0
          have t1 := TW1.it.2.ground.cell rfl s1
          have t2 := TW1.it.2.ground.cell rfl s2
          have t3 := TW1.it.2.ground.cell rfl s3
          have ST := play_step HS0.it TW1.it.2 (by decide) (by decide) (by decide) hqA.it.2 op2 ws2 hrd hrl W7.drew (Keeps.refl Nowhere W7).drew
          rw [← HN2.it] at ST
          obtain ⟨wa2, wc2, hws, _⟩ := hrd
          subst hws
          have hnl2 : Aside ((nextQ 3 100 q2 op2).length ≤ k + 1) := ⟨by have := next_len 3 100 q2 op2; have := hql.it; omega⟩
          obtain ⟨L2, hL⟩ : ∃ L, L = (nextQ 3 100 q2 op2).length := ⟨_, rfl⟩
          rw [← hL] at ST
          have STH2 := hide ST
          have HL2 : Aside _ := ⟨hL⟩
          clear s0 s1 s2 s3 hop2 hrl ST hL
          go_upto_region 16 with fail
          all_goals first
            | (exfalso; omega)
            | skip
          go_cut [14] from 47 to 91 (fun ok wx => ok = .bool true ∧ ∃ (own' : Nat → Nat) (n0 : Option Addr) (n2 : Nat), Aside (PlayAt w own' 3 4 wx p2 3 100 bq2 n0 n2 (nextQ 3 100 q2 op2) ∧ PlayAt w own' 1 2 wx p 6 40 bq n01 n21 (nextQ 6 40 q op1)))
          · go_region_with ((go_at_call 13; refine STH2.out.mono ?_; rintro e w8 ⟨n02, n22, own'', rfl, bo2, gr2, bx2, si2, nb2⟩; have m0 : w8.cell? ⟨bq2, 0, none⟩ = some (.int .i64 3) := (by rw [bx2.it.1.cell]; rfl); have m1 : w8.cell? ⟨bq2, 1, none⟩ = some (.int .i64 100) := (by rw [bx2.it.1.cell]; rfl); have m2 : w8.cell? ⟨bq2, 2, none⟩ = some (.slice a2 N2 c2) := (by rw [bx2.it.1.cell]; rfl); have z0 := bx2.it.1.frozen 0; have z1 := bx2.it.1.frozen 1; have z2 := bx2.it.1.frozen 2))
            all_goals
              have bo' := bo2.it
              rw [HL2.it] at bo'
              have TW : Aside _ := ⟨two_step TW1.it.2 TW1.it.1 (by decide) (by decide) (by decide) (by decide) (by decide) (by decide) hbb bo' gr2.it bx2.it si2.it L2 HL2.it rfl rfl⟩
              clear bo'
              go_wp2
              go_meet
              exact ⟨rfl, _, _, _, TW⟩
          · obtain ⟨rfl, own'', n02, n22, TW2⟩ := hcut
            go_wp2
            go_roundw
            case rel => exact ⟨k + 1, own'', n01, n21, _, n02, n22, _, by go_num, .inl (by omega), ⟨hnl1.it, hnl2.it⟩, ⟨TW2.it.2, TW2.it.1⟩⟩
            case measure => simp [intOf]; omega
        · have hB' : (M2 : Int) ≤ k := by omega
          clear HOP HOP2
          go_wp2
          all_goals first
            | (exfalso; omega)
            | skip
          go_roundw
          case rel => exact ⟨k + 1, own', n01, n21, _, a2, c2, q2, by go_num, .inl (by omega), ⟨hnl1.it, by have := hql.it; omega⟩, TW1⟩
          case measure => simp [intOf]; omega
    · by_cases hB : k < M2
      · have hA' : (M : Int) ≤ k := by omega
        have hB' : (k : Int) < M2 := by omega
        obtain ⟨op2, hop2⟩ : ∃ op, ys[k]? = some op := ⟨_, List.getElem?_eq_getElem (by rw [← HM2.it]; omega)⟩
        obtain ⟨sb2, so2, ws2, rfl, s0, s1, s2, s3, hrd, hrl⟩ := HOP2.it k op2 hop2
        have t0 := HP.it.2.ground.cell rfl s0
        have t1 := HP.it.2.ground.cell rfl s1
        have t2 := HP.it.2.ground.cell rfl s2
        have t3 := HP.it.2.ground.cell rfl s3
        have ST := play_step HS0.it HP.it.2 (by decide) (by decide) (by decide) hqA.it.2 op2 ws2 hrd hrl wr.drew (Keeps.refl Nowhere wr).drew
        rw [← HN2.it] at ST
        obtain ⟨wa2, wc2, hws, _⟩ := hrd
        subst hws
        have hnl2 : Aside ((nextQ 3 100 q2 op2).length ≤ k + 1) := ⟨by have := next_len 3 100 q2 op2; have := hql.it; omega⟩
        obtain ⟨L2, hL⟩ : ∃ L, L = (nextQ 3 100 q2 op2).length := ⟨_, rfl⟩
        rw [← hL] at ST
        have STH2 := hide ST
        have HL2 : Aside _ := ⟨hL⟩
        clear s0 s1 s2 s3 hop2 hrl ST hL
        go_upto_region 16 with fail
        all_goals first
          | (exfalso; omega)
          | skip
        go_cut [14] from 47 to 91 (fun ok wx => ok = .bool true ∧ ∃ (own' : Nat → Nat) (n0 : Option Addr) (n2 : Nat), Aside (PlayAt w own' 3 4 wx p2 3 100 bq2 n0 n2 (nextQ 3 100 q2 op2) ∧ PlayAt w own' 1 2 wx p 6 40 bq a c q))
        · go_region_with ((go_at_call 13; refine STH2.out.mono ?_; rintro e w8 ⟨n02, n22, own'', rfl, bo2, gr2, bx2, si2, nb2⟩; have m0 : w8.cell? ⟨bq2, 0, none⟩ = some (.int .i64 3) := (by rw [bx2.it.1.cell]; rfl); have m1 : w8.cell? ⟨bq2, 1, none⟩ = some (.int .i64 100) := (by rw [bx2.it.1.cell]; rfl); have m2 : w8.cell? ⟨bq2, 2, none⟩ = some (.slice a2 N2 c2) := (by rw [bx2.it.1.cell]; rfl); have z0 := bx2.it.1.frozen 0; have z1 := bx2.it.1.frozen 1; have z2 := bx2.it.1.frozen 2))
          all_goals
            have bo' := bo2.it
            rw [HL2.it] at bo'
            have TW : Aside _ := ⟨two_step HP.it.2 HP.it.1 (by decide) (by decide) (by decide) (by decide) (by decide) (by decide) hbb bo' gr2.it bx2.it si2.it L2 HL2.it rfl rfl⟩
            clear bo'
            go_wp2
            go_meet
            exact ⟨rfl, _, _, _, TW⟩
        · obtain ⟨rfl, own'', n02, n22, TW2⟩ := hcut
          go_wp2
          go_roundw
          case rel => exact ⟨k + 1, own'', a, c, q, n02, n22, _, by go_num, .inr (by omega), ⟨by have := hql.it; omega, hnl2.it⟩, ⟨TW2.it.2, TW2.it.1⟩⟩
          case measure => simp [intOf]; omega
      · have hA' : (M : Int) ≤ k := by omega
        have hB' : (M2 : Int) ≤ k := by omega
        have WK := hide (walked_ok wr HP.it.1.both.fifo hqA.it.1 (6 : Nat) (40 : Nat) _ HP.it.1.both.reads)
        rw [← HN.it] at WK
        have WK2 : Aside _ := ⟨fun w8 (k8 : Keeps Nowhere wr w8) => walked_ok w8 (HP.it.2.both.fifo.quiet k8) hqA.it.2 (3 : Nat) (100 : Nat) _ (HP.it.2.both.reads.later k8 (fun _ _ x => x))⟩
        rw [← HN2.it] at WK2
        clear HOP HOP2
        go_wp2_with fail
        all_goals first
          | (exfalso; omega)
          | skip
        refine WK.out.mono ?_
        rintro e w8 ⟨rfl, k8⟩
        have B8 := HP.it.2.box.1.later k8.it (fun x => x)
        have d0 : w8.cell? ⟨bq2, 0, none⟩ = some (.int .i64 3) := by rw [B8.cell]; rfl
        have d1 : w8.cell? ⟨bq2, 1, none⟩ = some (.int .i64 100) := by rw [B8.cell]; rfl
        have d2 : w8.cell? ⟨bq2, 2, none⟩ = some (.slice a2 N2 c2) := by rw [B8.cell, HN2.it]; rfl
        clear B8 b0 b1 b2 c0 c1 c2'
        go_wp2_with fail
        refine (WK2.it w8 k8.it).mono ?_
        rintro e w9 ⟨rfl, k9⟩
        go_wp2
        go_ret
        exact ⟨rfl, (HP.it.1.ground.quiet (k8.it.trans k9.it)).bel⟩
end Go.Proofs.YtgfgnabjffokjaaDoor
