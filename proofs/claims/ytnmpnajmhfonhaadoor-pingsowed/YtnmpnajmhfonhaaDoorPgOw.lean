/-
  culvertlaw17.PingsOwed
-/
import Derived.Test.YtnmpnajmhfonhaaDoorPgO
namespace Go.Proofs.YtnmpnajmhfonhaaDoor
open Go.RowKit
attribute [-go_sem] Builtin.append_

set_option maxRecDepth 20000 in
set_option maxHeartbeats 2000000 in
theorem owed_bad {A : Nat → Addr} (n : Int) (hn : n < 1 ∨ 1024 < n) (tv sv : Value) (w : World) (hs : Sents 124 codeVars A w) :
    Calls Tryd.prog 6 #[.int .i64 n, tv, sv] w fun e w' => e = .returned (.bool true) ∧ Below w.heap.size w w' := by
  have F := Aside.mk (fixed17 hs)
  have HS := Aside.mk hs
  clear hs
  have HN := Aside.mk hn
  clear hn
  go_enter Tryd.func6, Tryd.ntmps6
  go_upto_region 3 with (go_at_call 12; refine F.it.mono ?_; rintro e w1 ⟨rfl, K1⟩)
  have N1 := Aside.mk (pnew_no n w1 _ ((HS.it.later K1.it.bel).cell 1 _ rfl) HN.it)
  go_upto_region 4 with (first | (go_at_call 8; refine N1.it.mono ?_; clear N1; rintro e w2 ⟨rfl, K2⟩) | fail)
  have N2 := Aside.mk (pnew_no n w2 _ ((HS.it.later (K1.it.trans K2.it).bel).cell 1 _ rfl) HN.it)
  go_upto_region 5 with (first | (go_at_call 8; refine N2.it.mono ?_; clear N2; rintro e w3 ⟨rfl, K3⟩) | fail)
  rcases HN.it with h1 | h1
  · go_wp2_with fail
    go_ret
    exact ⟨rfl, ((K1.it.trans K2.it).trans K3.it).bel⟩
  · have h2 : ¬ n < 1 := by omega
    go_wp2_with fail
    go_ret
    exact ⟨rfl, ((K1.it.trans K2.it).trans K3.it).bel⟩

set_option maxRecDepth 20000 in
set_option maxHeartbeats 8000000 in
theorem owed_good {A : Nat → Addr} (n : Nat) (h1 : 1 ≤ n) (h2 : n ≤ 1024) (tv : Value) (ts : List Nat) (sv : Value) (zs : List OpV17) (w : World) (hs : Sents 124 codeVars A w) (ht : U32sArg w tv ts) (hz : Ops17Arg w sv zs) :
    Calls Tryd.prog 6 #[.int .i64 n, tv, sv] w fun e w' => e = .returned (.bool true) ∧ Below w.heap.size w w' := by
  have F := Aside.mk (fixed17 hs)
  have HS := Aside.mk hs
  have H12 := Aside.mk (And.intro h1 h2)
  obtain ⟨ht, ht4⟩ := ht
  obtain ⟨hz, hz16⟩ := hz
  have HT := Aside.mk ht
  have HZ := Aside.mk hz
  obtain ⟨ta, tc, rfl, htc, htm, _⟩ := ht
  obtain ⟨sa, sc, rfl, hsc, hsm, _⟩ := hz
  obtain ⟨N, hN⟩ : ∃ N, ts.length = N := ⟨_, rfl⟩
  obtain ⟨M, hM⟩ : ∃ M, zs.length = M := ⟨_, rfl⟩
  rw [hN] at HT htc ht4 ⊢
  rw [hM] at HZ hsc hz16 ⊢
  have HN := Aside.mk hN
  have HM := Aside.mk hM
  have hNm : (N : Int) ≤ 9223372036854775806 := by omega
  have hMm : (M : Int) ≤ 9223372036854775806 := by omega
  clear hs h1 h2 hN hM
  go_enter Tryd.func6, Tryd.ntmps6
  go_upto_region 3 with (go_at_call 12; refine F.it.mono ?_; rintro e w1 ⟨rfl, K1⟩)
  have N1 := Aside.mk (pnew_ok n H12.it.1 H12.it.2 w1 (fun _ => 0) 1 1)
  clear F
  go_upto_region 4 with (first | (go_at_call 8; refine N1.it.mono ?_; clear N1; rintro e w2 ⟨p, rfl, T2, _, K2⟩) | fail)
  have N2 := Aside.mk (pnew_ok n H12.it.1 H12.it.2 w2 (give (fun _ => 0) w1.heap.size 1) 2 2)
  go_upto_region 5 with (first | (go_at_call 8; refine N2.it.mono ?_; clear N2; rintro e w3 ⟨q, rfl, T3, _, K3⟩) | fail)
  obtain ⟨own3, Q3⟩ : ∃ own3, Aside (Oq A w own3 w3 p q (Pm.new n) (Pm.new n) (.slice none 0 0) []) := by
    have G1 := (OnG.start HS.it).sn (I := fun _ => False) (Sn.same K1.it) (fun x => x)
    have s2 : Sn (fun _ => False) (fun _ => 0) w1 (give (fun _ => 0) w1.heap.size 1) w2 := Sn.quiet K2.it 1
    have s3 : Sn (fun _ => False) (give (fun _ => 0) w1.heap.size 1) w2 (give (give (fun _ => 0) w1.heap.size 1) w2.heap.size 2) w3 := Sn.quiet K3.it 2
    exact ⟨_, ⟨(G1.sn s2 (fun x => x)).sn s3 (fun x => x), .inr ⟨p, rfl, T2.it.sn s3 (fun x => x) (fun x => x)⟩, .inr ⟨q, rfl, T3.it⟩, World.ownsRow_nil _ _ _ _, fun k e => by cases e⟩⟩
  have B3 : Aside (Ob n 0 [] (Pm.new n) (Pm.new n)) := ⟨⟨rfl, rfl, rfl, rfl, Nat.le_refl _, rfl, H12.it.1⟩⟩
  clear T2 T3
  go_upto_region 9 with fail
  go_upto_region 10 with fail
  go_loopw [11, 12, 60] (fun tv av jv wr => ∃ (j at' T : Nat) (a : Option Addr) (c : Nat) (tk : List Nat) (mp mq : Pm) (own : Nat → Nat), tv = .slice a T c ∧ av = .int .i64 at' ∧ jv = .int .i64 j ∧ j ≤ N ∧ at' ≤ T ∧ T ≤ j ∧ Aside (tk.length = T) ∧ Aside (mq.an.length ≤ j) ∧ Aside (Ob n at' tk mp mq) ∧ Aside (Oq A w own wr p q mp mq (.slice a T c) tk)) (fun _ _ jv _ => N - natOf jv)
  case atStart => exact ⟨0, 0, 0, none, 0, [], Pm.new n, Pm.new n, own3, rfl, rfl, rfl, Nat.zero_le _, Nat.zero_le _, Nat.zero_le _, ⟨rfl⟩, ⟨Nat.le_refl _⟩, B3, Q3⟩
  case round =>
    clear B3 Q3
    obtain ⟨j, at', T, a, c, tk, mp, mq, own, rfl, rfl, rfl, hj, hat, hTj, HL, HA, OB, OQ⟩ := hrel
    rcases Nat.eq_or_lt_of_le hj with rfl | hlt
    · have OB2 : Aside (mq.ow = tk.drop at') := ⟨OB.it.oq⟩
      clear OB HA
      go_upto_region 36 with fail
      go_loopw [12] (fun av wr => ∃ (at' : Nat) (mq : Pm) (own : Nat → Nat), av = .int .i64 at' ∧ at' ≤ T ∧ Aside (mq.ow = tk.drop at') ∧ Aside (Oq A w own wr p q mp mq (.slice a T c) tk)) (fun av _ => T - natOf av)
      case atStart => exact ⟨at', mq, own, rfl, hat, OB2, OQ⟩
      case round =>
        clear OB2 OQ hat
        obtain ⟨at2, mq2, own2, rfl, hat2, OB2, OQ2⟩ := hrel
        rcases Nat.eq_or_lt_of_le hat2 with rfl | hlt2
        · have RQ := Aside.mk (oq_replQ OQ2)
          have e0 : mq2.ow = [] := by rw [OB2.it, List.drop_eq_nil_iff]; have := HL.it; omega
          have e1 : mq2.repl.ow.length = 0 := by show mq2.ow.tail.length = 0; rw [e0]; rfl
          rw [e0] at RQ
          have E1 := Aside.mk e1
          clear e0 e1
          go_upto_region 42 with (first | (go_at_call 19; refine RQ.it.mono ?_; clear RQ; rintro e w6 ⟨own6, rfl, X6⟩) | fail)
          have OW := Aside.mk (oq_owedQ X6.it w6 ⟨Keeps.refl _ _⟩)
          rw [E1.it] at OW
          rw [show hd0 [] = 0 from rfl, show some0 [] = false from rfl]
          go_wp2_with (first | (go_at_call 10; refine OW.it.mono ?_; clear OW; rintro e w7 ⟨rfl, K7⟩) | fail)
          go_ret
          exact ⟨rfl, ((Keeps.ofBelow X6.it.g.g.bel).trans K7.it).bel⟩
        · have RQ := Aside.mk (oq_replQ OQ2)
          obtain ⟨y, hy⟩ : ∃ y, tk[at2]? = some y := ⟨_, List.getElem?_eq_getElem (by rw [HL.it]; exact hlt2)⟩
          have e0 : ∃ l, mq2.ow = y :: l ∧ mq2.repl.ow = tk.drop (at2 + 1) := by
            refine ⟨tk.drop (at2 + 1), ?_, ?_⟩
            · rw [OB2.it]
              obtain ⟨hl, rfl⟩ := List.getElem?_eq_some_iff.1 hy
              exact List.drop_eq_getElem_cons hl
            · show mq2.ow.tail = _
              rw [OB2.it, drop_tail]
          obtain ⟨l, e0, e1⟩ := e0
          have E1 := Aside.mk e1
          have HY := Aside.mk hy
          rw [e0] at RQ
          rw [show hd0 (y :: l) = y from rfl, show some0 (y :: l) = true from rfl] at RQ
          clear e0 e1 hy
          go_upto_region 38 with (first | (go_at_call 19; refine RQ.it.mono ?_; clear RQ; rintro e w6 ⟨own6, rfl, X6⟩) | fail)
          obtain ⟨g, c6, hv, hc6, y0⟩ := X6.it.cell HY.it
          injection hv with hv1 hv2 hv3
          subst hv1 hv3
          rw [HL.it] at hc6
          clear hv2 OQ2
          have eyy : ((y : Int) != y) = false := by simp
          go_wp2_with fail
          go_roundw
          case rel => exact ⟨at2 + 1, mq2.repl, own6, by go_num, by omega, E1, X6⟩
          case measure => simp [natOf]; omega
    · obtain ⟨t, ht⟩ : ∃ t, ts[j]? = some t := ⟨_, List.getElem?_eq_getElem (by rw [HN.it]; exact hlt)⟩
      have hw0 := HT.it
      rw [← HN.it] at hw0
      obtain ⟨b, o, rfl, x0, htb⟩ := u32_cells hw0 ht
      have KW : Keeps Nowhere w wr := Keeps.ofBelow OQ.it.g.g.bel
      have z0 : wr.cell? ⟨b, o + j, none⟩ = some (.int .u32 (t : Nat)) := by rw [World.cell?_of_block (w := w) (KW.block b (World.block_lt_of_cell? w _ x0) (fun x => x))]; exact x0
      have HTB := Aside.mk htb
      clear x0 hw0 ht htb
      go_upto_if 68 with fail
      go_cut [12] (fun av wx => ∃ (at2 : Nat) (mp2 mq2 : Pm) (own2 : Nat → Nat), av = .int .i64 at2 ∧ at2 ≤ T ∧ Aside (mq2.an.length ≤ j + 1) ∧ Aside (Ob n at2 tk mp2 mq2) ∧ Aside (Oq A w own2 wx p q mp2 mq2 (.slice a T c) tk))
      case first =>
        by_cases hjM : j < M
        · obtain ⟨z, hz⟩ : ∃ z, zs[j]? = some z := ⟨_, List.getElem?_eq_getElem (by rw [HM.it]; exact hjM)⟩
          have hw0 := HZ.it
          rw [← HM.it] at hw0
          obtain ⟨sb, so, rfl, x0, x1, hid⟩ := op17_cells hw0 hz
          obtain ⟨kd, id⟩ := z
          simp only at x0 x1 hid
          have y0 : wr.cell? ⟨sb, so + j * 2, none⟩ = some (.int .i64 kd) := by rw [World.cell?_of_block (w := w) (KW.block sb (World.block_lt_of_cell? w _ x0) (fun x => x))]; exact x0
          have y1 : wr.cell? ⟨sb, so + j * 2 + 1, none⟩ = some (.int .u32 (id : Nat)) := by rw [World.cell?_of_block (w := w) (KW.block sb (World.block_lt_of_cell? w _ x0) (fun x => x))]; exact x1
          have HID := Aside.mk hid
          have hjM' : (j : Int) < M := by omega
          clear x0 x1 hw0 hz KW hid z0
          by_cases k0 : kd = 0
          · subst k0
            have AQ := Aside.mk (oq_ask OQ)
            go_wp2_with (first | (go_at_call 17; refine AQ.it.mono ?_; clear AQ; rintro e w6 ⟨u1, u2, rfl, X6⟩) | fail)
            go_meet
            case rel => exact ⟨at', mp, mq.ask, own, rfl, hat, ⟨by rw [an_ask]; have := HA.it; omega⟩, ⟨OB.it.askQ⟩, X6⟩
          by_cases k1 : kd = 1
          · subst k1
            clear k0
            have AQ := Aside.mk (oq_heard OQ id HID.it (by have := HA.it; omega))
            go_wp2_with (first | (go_at_call 18; refine AQ.it.mono ?_; clear AQ; rintro e w6 ⟨u1, own6, rfl, X6⟩) | fail)
            go_meet
            case rel => exact ⟨at', mp, mq.heard id, own6, rfl, hat, ⟨by have := HA.it; have := an_heard mq id; omega⟩, ⟨OB.it.heardQ id⟩, X6⟩
          by_cases k2 : kd = 2
          · subst k2
            clear k0 k1
            have AQ := Aside.mk (oq_ans OQ)
            go_wp2_with (first | (go_at_call 16; refine AQ.it.mono ?_; clear AQ; rintro e w6 ⟨u1, rfl, X6⟩) | fail)
            go_meet
            case rel => exact ⟨at', mp, mq.told, own, rfl, hat, ⟨Nat.zero_le _⟩, ⟨OB.it.toldQ⟩, X6⟩
          have q0 : (kd == 0) = false := beq_eq_false_iff_ne.2 k0
          have q1 : (kd == 1) = false := beq_eq_false_iff_ne.2 k1
          have q2 : (kd == 2) = false := beq_eq_false_iff_ne.2 k2
          clear k0 k1 k2
          by_cases k4 : kd = 4
          · subst k4
            clear q0 q1 q2
            have AQ := Aside.mk (oq_replP OQ)
            rcases Nat.eq_or_lt_of_le hat with hE | hL
            · obtain ⟨d1, d2, d3, d4⟩ := OB.it.empty (by rw [HL.it]; exact hE)
              rw [d1, d3] at AQ
              have OB5 := Aside.mk (OB.it.repl0 (by rw [HL.it]; exact hE))
              have ec : ¬ (at' : Int) < T := by omega
              have HE := Aside.mk hE
              clear hE
              go_upto_region 22 with (first | (go_at_call 19; refine AQ.it.mono ?_; clear AQ; rintro e w6 ⟨own6, rfl, X6⟩) | fail)
              have BQ := Aside.mk (oq_replQ X6)
              rw [d2, d4] at BQ
              clear d1 d2 d3 d4
              go_wp2_with (first | (go_at_call 19; refine BQ.it.mono ?_; clear BQ; rintro e w7 ⟨own7, rfl, X7⟩) | fail)
              go_meet
              case rel => exact ⟨at', mp.repl, mq.repl, own7, rfl, hat, ⟨by show mq.an.length ≤ _; have := HA.it; omega⟩, OB5, X7⟩
            · obtain ⟨y, hy⟩ : ∃ y, tk[at']? = some y := ⟨_, List.getElem?_eq_getElem (by rw [HL.it]; exact hL)⟩
              obtain ⟨d1, d2, d3, d4⟩ := OB.it.head hy
              have HY := Aside.mk hy
              rw [d1, d3] at AQ
              have OB5 := Aside.mk (OB.it.repl (by rw [HL.it]; exact hL))
              have ec : (at' : Int) < T := by omega
              have eyy : ((y : Int) != y) = false := by simp
              clear hy
              go_upto_region 22 with (first | (go_at_call 19; refine AQ.it.mono ?_; clear AQ; rintro e w6 ⟨own6, rfl, X6⟩) | fail)
              have BQ := Aside.mk (oq_replQ X6)
              rw [d2, d4] at BQ
              clear d1 d2 d3 d4
              go_upto_region 23 with (first | (go_at_call 19; refine BQ.it.mono ?_; clear BQ; rintro e w7 ⟨own7, rfl, X7⟩) | fail)
              obtain ⟨g, c7, hv, hc7, y7⟩ := X7.it.cell HY.it
              injection hv with hv1 hv2 hv3
              subst hv1 hv3
              rw [HL.it] at hc7
              clear hv2 OQ X6
              go_wp2_with fail
              go_meet
              case rel => exact ⟨at' + 1, mp.repl, mq.repl, own7, by go_num, hL, ⟨by show mq.an.length ≤ _; have := HA.it; omega⟩, OB5, X7⟩
          · have q4 : (kd == 4) = false := beq_eq_false_iff_ne.2 k4
            clear k4
            go_wp2_with fail
            go_meet
            case rel => exact ⟨at', mp, mq, own, rfl, hat, ⟨by have := HA.it; omega⟩, OB, OQ⟩
        · have hjM' : ¬ (j : Int) < M := by omega
          go_wp2_with fail
          go_meet
          case rel => exact ⟨at', mp, mq, own, rfl, hat, ⟨by have := HA.it; omega⟩, OB, OQ⟩
      case rest =>
        obtain ⟨at2, mp2, mq2, own2, rfl, hat2, HA2, OB2, OQ2⟩ := hcut
        clear OB OQ HA hat z0 KW
        have AP := Aside.mk (oq_askedP OQ2 t)
        obtain ⟨D, hD⟩ : ∃ D : Nat, T - at2 = D := ⟨_, rfl⟩
        have eD : (T : Int) - at2 = D := by omega
        have HD := Aside.mk hD
        have hDT : D ≤ T := by omega
        have bq : (n : Int) ≤ 1024 := by have := H12.it; omega
        clear hD
        by_cases hf : n ≤ D
        · obtain ⟨d1, d2, d3, d4⟩ := OB2.it.full (by rw [HL.it, HD.it]; exact hf) t
          rw [d1, d3] at AP
          have hlP := Aside.mk OB2.it.lenP
          have hlQ := Aside.mk OB2.it.lenQ
          rw [HL.it, HD.it] at hlP hlQ
          have hfd : decide (n ≤ D) = true := decide_eq_true hf
          go_upto_region 28 with (first
            | (go_at_call_of 20 (ptr q); refine BQ.it.mono ?_; clear BQ; rintro e w7 ⟨ev7, own7, rfl, C7, X7⟩)
            | (go_at_call_of 20 (ptr p); refine AP.it.mono ?_; clear AP; rintro e w6 ⟨ev6, own6, rfl, C6, X6⟩; have BQ := Aside.mk (oq_askedQ X6 t); rw [d2, d4] at BQ)
            | fail)
          obtain ⟨a6, e6⟩ := Coded.pos C6.out (by decide)
          obtain ⟨a7, e7⟩ := Coded.pos C7.out (by decide)
          subst e6 e7
          have CD := Aside.mk (code_of X7.it.g.sents C6.out)
          have OP := Aside.mk (oq_owedP X7.it)
          have OW := Aside.mk (oq_owedQ X7.it)
          have WT := Aside.mk (oq_waitP X7.it)
          rw [hlP.it] at OP
          rw [hlQ.it] at OW
          rw [OB2.it.l0] at WT
          have K7 : Aside (Keeps Nowhere w7 w7) := ⟨Keeps.refl _ _⟩
          have ld : ([] : Tl Unit).length = 0 := rfl
          rw [ld] at WT
          have hnD : ¬ n < D := by
            have h1 := X7.it.p.ok.ol
            have h2 := OB2.it.np
            have h3 := hlP.it
            omega
          clear d1 d2 d3 d4 hf ld C6 C7
          go_wp2_with (first
            | (go_at_call 9; refine CD.it.mono ?_; clear CD; rintro e w8 ⟨rfl, hw8⟩; subst hw8)
            | (go_at_call_of 10 (ptr p); refine (OP.it _ (by with_reducible assumption)).mono ?_; rintro e w9 ⟨rfl, K9⟩)
            | (go_at_call_of 10 (ptr q); refine (OW.it _ (by with_reducible assumption)).mono ?_; rintro e w9 ⟨rfl, K9⟩)
            | (go_at_call 11; refine (WT.it _ (by with_reducible assumption)).mono ?_; rintro e w10 ⟨a10, c10, rfl, K10⟩)
            | fail)
          go_roundw
          case rel => exact ⟨j + 1, at2, T, a, c, tk, mp2, mq2, own7, rfl, rfl, by go_num, by omega, hat2, by omega, HL, HA2, OB2, ⟨X7.it.quiet K10.it⟩⟩
          case measure => simp [natOf]; omega
        · obtain ⟨d1, d2, d3⟩ := OB2.it.free (by rw [HL.it, HD.it]; exact hf) t
          rw [d1] at AP
          have hfd : decide (n ≤ D) = false := decide_eq_false hf
          have OB6 := Aside.mk d3
          go_upto_region 28 with (first
            | (go_at_call_of 20 (ptr q); refine BQ.it.mono ?_; clear BQ; rintro e w7 ⟨ev7, own7, rfl, C7, X7⟩)
            | (go_at_call_of 20 (ptr p); refine AP.it.mono ?_; clear AP; rintro e w6 ⟨ev6, own6, rfl, C6, X6⟩; have BQ := Aside.mk (oq_askedQ X6 t); rw [d2] at BQ)
            | fail)
          have e6 : ev6 = .nilIface := Coded.zero C6.out
          have e7 : ev7 = .nilIface := Coded.zero C7.out
          subst e6 e7
          obtain ⟨a8, l8, c8, w8, own8, run8, X8⟩ := X7.it.app t (by rw [HL.it]; omega)
          have hl8 := X8.it.shape
          obtain ⟨a8', c8', hl8⟩ := hl8
          injection hl8 with h81 h82 h83
          have h82 : l8 = T + 1 := by rw [h82, List.length_append, HL.it]; rfl
          subst h82
          have L8 : Aside ((tk ++ [t]).length = T + 1) := ⟨by rw [List.length_append, HL.it]; rfl⟩
          have hlP := Aside.mk OB6.it.lenP
          have hlQ := Aside.mk OB6.it.lenQ
          have hD1 : T + 1 - at2 = D + 1 := by have := HD.it; omega
          rw [L8.it, hD1] at hlP hlQ
          have OP := Aside.mk (oq_owedP X8.it)
          have OW := Aside.mk (oq_owedQ X8.it)
          have WT := Aside.mk (oq_waitP X8.it)
          rw [hlP.it] at OP
          rw [hlQ.it] at OW
          rw [OB6.it.l0] at WT
          have ld : ([] : Tl Unit).length = 0 := rfl
          rw [ld] at WT
          have K8 : Aside (Keeps Nowhere w8 w8) := ⟨Keeps.refl _ _⟩
          have eD1 : (T : Int) + 1 - at2 = (D + 1 : Nat) := by omega
          have AN : Aside ((mq2.asked t).an.length ≤ j + 1) := ⟨by rw [an_asked]; exact HA2.it⟩
          have hnD : ¬ n < D + 1 := by omega
          obtain ⟨D1, hD1'⟩ : ∃ D1, D + 1 = D1 := ⟨_, rfl⟩
          rw [hD1'] at OP OW eD1 hnD
          have hd1 : (D1 : Int) ≤ 1048576 := by omega
          clear d1 d2 d3 hf ld C6 C7 hD1 hD1' h81 h82 h83 OB2 OQ2 X6 X7 HA2 hlP hlQ
          go_wp2_with (first
            | (go_at_call_of 10 (ptr p); refine (OP.it _ (by with_reducible assumption)).mono ?_; rintro e w9 ⟨rfl, K9⟩)
            | (go_at_call_of 10 (ptr q); refine (OW.it _ (by with_reducible assumption)).mono ?_; rintro e w9 ⟨rfl, K9⟩)
            | (go_at_call 11; refine (WT.it _ (by with_reducible assumption)).mono ?_; rintro e w10 ⟨a10, c10, rfl, K10⟩)
            | fail)
          go_roundw
          case rel => exact ⟨j + 1, at2, T + 1, a8, c8, tk ++ [t], mp2.asked t, mq2.asked t, own8, rfl, rfl, by go_num, by omega, by omega, by omega, L8, AN, OB6, ⟨X8.it.quiet K10.it⟩⟩
          case measure => simp [natOf]; omega
/-- PingsOwed -/
theorem pingsOwed_walk {A : Nat → Addr} (n : Int) (tv : Value) (ts : List Nat) (sv : Value) (zs : List OpV17) (w : World) (hs : Sents 124 codeVars A w) (ht : U32sArg w tv ts) (hz : Ops17Arg w sv zs) :
    Calls Tryd.prog 6 #[.int .i64 n, tv, sv] w fun e w' => e = .returned (.bool true) ∧ Below w.heap.size w w' := by
  by_cases hn : n < 1 ∨ 1024 < n
  · exact owed_bad n hn tv sv w hs
  · obtain ⟨m, rfl⟩ : ∃ m : Nat, n = m := ⟨n.toNat, by omega⟩
    exact owed_good m (by omega) (by omega) tv ts sv zs w hs ht hz
end Go.Proofs.YtnmpnajmhfonhaaDoor
