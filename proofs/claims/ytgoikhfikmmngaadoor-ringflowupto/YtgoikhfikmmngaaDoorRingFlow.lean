/-
  RingFlow, walked (flows up to their bulk).
-/
import Derived.Test.YtgoikhfikmmngaaDoorFlowA
import Derived.Test.YtgoikhfikmmngaaDoorLaidR
import Derived.Laws.Concat
namespace Go.Proofs.YtgoikhfikmmngaaDoor
open Go.RowKit

theorem Rd.pre {w : World} {p : Option Addr} {l c n : Nat} {ns : List Int} (h : Rd w (.slice p l c) ns) (hn : n ≤ ns.length) : Rd w (.slice p n c) (ns.take n) := by
  obtain ⟨⟨a, c', e, hlc, hc⟩, hnil⟩ := h
  injection e with e1 e2 e3
  subst e1 e3
  rw [bv_length] at hlc
  refine ⟨⟨p, c, ?_, ?_, fun j u hj => ?_⟩, fun l' c' e => ?_⟩
  · rw [bv_length, List.length_take, Nat.min_eq_left hn]
  · rw [bv_length, List.length_take]; omega
  · rw [bv_take] at hj
    exact hc j u (by rw [List.getElem?_take] at hj; split at hj; exact hj; cases hj)
  · injection e with e1 _ e3
    subst e1 e3
    exact hnil _ _ rfl

/-- what the k-th flow is, in a later world -/
theorem Flows.read {w0 : World} {sa : Option Addr} {M : Nat} {zs : List FlowV} (hM : M = zs.length)
    (hat : ∀ i z, zs[i]? = some z → ∃ b o cs, sa = some ⟨b, o, none⟩ ∧ FlowOk w0 1048576 z cs ∧ cs.length = 3 ∧ ∀ j, j < 3 → w0.cell? ⟨b, o + i * 3 + j, none⟩ = cs[j]?) (k : Nat) (hk : k < M) :
    ∃ (p : Option Addr) (c : Nat) (ns : List Int) (out : Int) (drop : Bool) (sb so : Nat), (-9223372036854775808 ≤ out ∧ out ≤ 9223372036854775807) ∧ ns.length ≤ 1048576 ∧ AreBytes ns ∧ Rd w0 (.slice p ns.length c) ns ∧ sa = some ⟨sb, so, none⟩ ∧
      ∀ own w, Ground w0.heap.size w0 own w → w.cell? ⟨sb, so + k * 3, none⟩ = some (.slice p ns.length c) ∧ w.cell? ⟨sb, so + k * 3 + 1, none⟩ = some (.int .i64 out) ∧ w.cell? ⟨sb, so + k * 3 + 2, none⟩ = some (.bool drop) := by
  subst hM
  obtain ⟨sb, so, cs, rfl, ⟨e, hr, hb, hln, ho⟩, hl, hc⟩ := hat k zs[k] (List.getElem?_eq_getElem hk)
  subst e
  obtain ⟨p, c, hsh⟩ := hr.shape
  have h0 := hc 0 (by decide)
  have h1 := hc 1 (by decide)
  have h2 := hc 2 (by decide)
  have h0' : w0.cell? ⟨sb, so + k * 3, none⟩ = some (.slice p zs[k].ns.length c) := by rw [← hsh]; exact h0
  rw [hsh] at hr
  exact ⟨p, c, _, _, _, sb, so, ho, hln, hb, hr, rfl, fun own w g => ⟨g.cell rfl h0', g.cell rfl h1, g.cell rfl h2⟩⟩

set_option maxRecDepth 20000 in
set_option maxHeartbeats 4000000 in
theorem ringFlow_walkU {A : Nat → Addr} (n : Int) (vf : Value) (zs : List FlowV) (w : World) (hs : Sents 86 oneVars A w) (hz : FlowsArg w vf zs) :
    Calls Tryd.prog 3 #[.int .i64 n, vf] w fun e w' => e = .returned (.bool true) ∧ Below w.heap.size w w' := by
  obtain ⟨⟨sa, sc, rfl, hlc, _, hat⟩, hMb⟩ := hz
  obtain ⟨M, hM⟩ : ∃ M, Aside (M = zs.length) := ⟨_, ⟨rfl⟩⟩
  rw [← hM.it] at hlc hMb ⊢
  have HAT := Aside.mk (fun k hk => Flows.read hM.it hat k hk)
  have FX := Aside.mk (fixed_ok w)
  have HC := Aside.mk (hs.cell 0 0 rfl)
  clear hs hat
  by_cases hn : n < 0 ∨ 2147483647 < n
  · go_enter Tryd.func3, Tryd.ntmps3
    go_upto_region 4 with (first
      | (go_at_call 5; refine FX.it.mono ?_; rintro e w1 ⟨rfl, b1⟩; have NW := Aside.mk (Rbyte.new_bad w1 n _ (by rw [b1.cell (World.block_lt_of_cell? w _ HC.it)]; exact HC.it) hn))
      | (go_at_call 6; refine NW.it.mono ?_; rintro e w2 ⟨rfl, k2⟩) | fail)
    have B2 := Aside.mk (below_next b1 k2 b1.size (fun _ e _ => e.elim))
    clear NW FX HC
    by_cases h0 : n < 0
    · go_wp2_with fail
      go_ret
      exact ⟨rfl, B2.it⟩
    · have h1 : 2147483647 < n := by omega
      go_wp2_with fail
      go_ret
      exact ⟨rfl, B2.it⟩
  · obtain ⟨cap, rfl⟩ : ∃ cap : Nat, n = cap := ⟨n.toNat, by omega⟩
    have hcap : cap ≤ 2147483647 := by omega
    clear hn
    go_enter Tryd.func3, Tryd.ntmps3
    go_upto_region 7 with (first
      | (go_at_call 5; refine FX.it.mono ?_; rintro e w1 ⟨rfl, b1⟩; have NW := Aside.mk (Rbyte.new_good w1 cap hcap))
      | (go_at_call 6; refine NW.it.mono ?_; rintro e w2 ⟨rfl, R2, k2⟩) | fail)
    obtain ⟨x, hx⟩ : ∃ x : Value, x = .pointer (some ⟨w1.heap.size, 0, none⟩) := ⟨_, rfl⟩
    have hxn : ¬ x = .pointer none := by rw [hx]; exact fun e => by cases e
    obtain ⟨own2, P2⟩ : ∃ own2, Aside (Fl2 w x cap [] 0 (.slice none 0 0) [] (.slice none 0 0) [] (.slice none 0 0) [] 0 [] own2 w2) := by
      have G1 : Ground w.heap.size w (fun _ => 0) w1 := ⟨fun _ _ => rfl, b1, b1.size⟩
      have sn : Sn (fun _ => False) (fun _ => 0) w1 (give (fun _ => 0) w1.heap.size 1) w2 := Sn.quiet k2 1
      refine ⟨_, ⟨?_, RowB.nil _ _ _, RowB.nil _ _ _, ⟨.inl ⟨rfl, rfl⟩, fun k hk => by cases hk⟩, .inl rfl, G1.sn sn (fun x => x), rfl⟩⟩
      rw [hx]
      exact R2.mono (fun k e _ => by rw [e]; exact give_new (Nat.le_refl _))
    rw [← hx]
    clear hx R2 k2 NW FX HC b1
    go_upto_region 8 with fail
    go_loopw [7, 8, 41] (fun av bv' i wr => ∃ (k L IL OL : Nat) (ia oa : Option Addr) (ic oc : Nat) (items ins outs : List Int) (own : Nat → Nat), av = .slice ia IL ic ∧ bv' = .slice oa OL oc ∧ i = .int .i64 k ∧ k ≤ M ∧ Aside (AreBytes ins ∧ ins = outs ++ items ∧ ins.length = IL ∧ outs.length = OL ∧ IL ≤ k * 1048576) ∧ Aside (Fl2 w x cap items L (.slice ia IL ic) ins (.slice oa OL oc) outs (.slice none 0 0) [] 0 [] own wr)) (fun _ _ i _ => M - (intOf i).toNat)
    case atStart => exact ⟨0, 0, 0, 0, none, none, 0, 0, [], [], [], own2, rfl, rfl, rfl, Nat.zero_le _, ⟨(fun _ h => (by cases h)), rfl, rfl, rfl, Nat.zero_le _⟩, P2⟩
    case round =>
      obtain ⟨k, L, IL, OL, ia, oa, ic, oc, items, ins, outs, own, rfl, rfl, rfl, hk, PU, HP⟩ := hrel
      clear P2
      have i3 : (0 : Int) ≤ k := by omega
      have hLc := (Fl2.len_cap HP).1
      rcases Nat.eq_or_lt_of_le hk with rfl | hlt
      · have y1 : (IL : Int) - OL = L := by
          obtain ⟨_, e1, e2, e3, _⟩ := PU.it
          have := HP.it.len
          rw [e1, List.length_append] at e2
          omega
        have CL := Aside.mk (fl_clear HP)
        clear HAT
        go_wp2_with (first
          | (go_at_call 13; refine CL.it.mono ?_; rintro e w5 ⟨own5, rfl, P5⟩)
          | (go_at_call 10; with_reducible refine (fl_len P5).mono ?_; rintro e w6 ⟨rfl, rfl⟩)
          | (go_at_call 12; with_reducible refine (fl_pop P5 1).mono ?_; rintro e w7 ⟨sq, own7, rfl, P7⟩)
          | fail)
        all_goals first
          | (exfalso; omega)
          | skip
        go_ret
        exact ⟨rfl, P7.it.g.bel⟩
      · obtain ⟨fp, fcap, ns, fout, drop, sb, so, ⟨ho1, ho2⟩, hns, hby, hrd, rfl, hcl⟩ := HAT.it k hlt
        obtain ⟨r0, r1, r2⟩ := hcl _ _ HP.it.g
        have i2 : (k : Int) < M := by omega
        have i4 : (k : Int) ≤ 1048576 := by omega
        have RD := Aside.mk hrd
        have HB := Aside.mk hby
        clear hcl hrd hby hk
        go_upto_region 10 with fail
        obtain ⟨N, hN⟩ : ∃ N, Aside (N = ns.length) := ⟨_, ⟨rfl⟩⟩
        rw [← hN.it] at RD hns ⊢
        obtain ⟨W1, hW1⟩ : ∃ W1, W1 = wr.alloc (.cells #[.slice fp N fcap, .int .i64 fout, .bool drop] 31) := ⟨_, rfl⟩
        obtain ⟨own1, R1⟩ : ∃ own1, Aside (Fl2 w x cap items L (.slice ia IL ic) ins (.slice oa OL oc) outs (.slice none 0 0) [] wr.heap.size [.slice fp N fcap, .int .i64 fout, .bool drop] own1 W1) := ⟨_, by rw [hW1]; exact Fl2.start HP _⟩
        rw [← hW1]
        obtain ⟨b, hb⟩ : ∃ b, Aside (b = wr.heap.size) := ⟨_, ⟨rfl⟩⟩
        rw [← hb.it] at R1 ⊢
        clear hW1 r0 r1 r2 HP hb
        obtain ⟨f0, f1, f2⟩ := Fl2.flow R1
        have PS := Aside.mk (fl_push R1 (.slice fp N fcap) ns ⟨RD.it⟩ (by have := hN.it; omega))
        rw [← hN.it] at PS
        obtain ⟨m, hm⟩ : ∃ m, Aside (m = min N (cap - L)) := ⟨_, ⟨rfl⟩⟩
        rw [← hm.it] at PS
        obtain ⟨fr, hfr⟩ : ∃ fr : Int, Aside (fr = (cap : Int) - L) := ⟨_, ⟨rfl⟩⟩
        have FRE := Aside.mk (fl_free R1)
        rw [← hfr.it] at FRE
        go_upto_region 12 with (first
          | (go_at_call 7; refine FRE.it.mono ?_; rintro e w4 ⟨rfl, rfl⟩)
          | (go_at_call 8; refine PS.it.mono ?_; rintro e w5 ⟨own5, rfl, R5⟩)
          | fail)
        clear f0 f1 f2 R1 PS FRE
        obtain ⟨f0, f1, f2⟩ := Fl2.flow R5
        have hmN : m ≤ N := by have := hm.it; omega
        go_cut [68] from 42 to 141 (fun v wx => v = .bool false ∧ wx = w5)
        case first =>
          as_aux_lemma =>
            have e0 : (m : Int) ≤ N := by omega
            have e00 : (0 : Int) ≤ m := by omega
            by_cases c1 : fr < N
            · have e1 : ((m : Int) != fr) = false := by
                have h1 := hm.it
                have h2 := hfr.it
                have h3 : (m : Int) = fr := by omega
                simp [h3]
              go_wp2_with fail
              all_goals first
                | (exfalso; omega)
                | skip
              go_meet
              case rel => first | exact ⟨rfl, rfl⟩ | exact ⟨by rw [show decide ((m : Int) < 0) = false from decide_eq_false (by omega), show decide (N < m) = false from decide_eq_false (by omega)]; rfl, rfl⟩
            · have e1 : m = N := by have := hm.it; have := hfr.it; omega
              subst e1
              go_wp2_with fail
              all_goals first
                | (exfalso; omega)
                | skip
              go_meet
              case rel => first | exact ⟨rfl, rfl⟩ | exact ⟨by rw [show decide ((m : Int) < 0) = false from decide_eq_false (by omega), show decide (N < m) = false from decide_eq_false (by omega)]; rfl, rfl⟩
        case rest =>
          obtain ⟨rfl, rfl⟩ := hcut
          have hmc : m ≤ fcap := by
            obtain ⟨⟨_, _, e, h, _⟩, _⟩ := RD.it
            injection e with _ e2 e3
            rw [← e3] at h
            rw [bv_length, ← hN.it] at h
            omega
          have hmc2 : (m : Int) ≤ fcap := by omega
          have hm0 : (0 : Int) ≤ m := by omega
          have RX := Aside.mk ((Rd.pre RD.it (n := m) (by have := hN.it; omega)).later R5.it.g.bel)
          have OI := Aside.mk R5.it.inn.1
          have hIL : Aside (ins.length + (ns.take m).length ≤ 140737488355328) := ⟨by
            have h1 := PU.it.2.2.1
            have h2 := PU.it.2.2.2.2
            have h3 : k * 1048576 ≤ 1048576 * 1048576 := Nat.mul_le_mul_right _ (by omega)
            rw [List.length_take]
            omega⟩
          clear f1 f2
          go_upto_region 15 with (at_builtin; refine wpList_appendO rfl (.tmp 69) (.tmp 73) rfl (.slice ia IL ic) (.slice fp m fcap) ins (ns.take m) OI.it RX.it hIL.it rfl (by first | rfl | simp [Act.eval]) ?_; intro q7 l7 c7 w7 o7 k7 b7)
          obtain ⟨own7, R7⟩ := Fl2.inApp R5 o7 k7 b7
          obtain ⟨ins1, hins⟩ : ∃ ins1, Aside (ins1 = ins ++ ns.take m) := ⟨_, ⟨rfl⟩⟩
          obtain ⟨items1, hit⟩ : ∃ items1, Aside (items1 = items ++ ns.take m) := ⟨_, ⟨rfl⟩⟩
          obtain ⟨L1, hL1⟩ : ∃ L1, Aside (L1 = L + m) := ⟨_, ⟨rfl⟩⟩
          rw [← hins.it, ← hit.it, ← hL1.it] at R7
          have PU1 : Aside (AreBytes ins1 ∧ ins1 = outs ++ items1 ∧ ins1.length = l7 ∧ outs.length = OL ∧ l7 ≤ (k + 1) * 1048576) := ⟨by
            obtain ⟨p1, p2, p3, p4, p5⟩ := PU.it
            obtain ⟨_, _, e⟩ := R7.it.inn.shape
            injection e with _ e _
            refine ⟨?_, ?_, e.symm, p4, ?_⟩
            · rw [hins.it]
              intro y hy
              rcases List.mem_append.1 hy with hy | hy
              · exact p1 y hy
              · exact HB.it y (List.mem_of_mem_take hy)
            · rw [hins.it, hit.it, p2, List.append_assoc]
            · rw [e, hins.it, List.length_append, List.length_take]
              omega⟩
          have hLc1 := (Fl2.len_cap R7).1
          clear o7 k7 b7 OI RX hIL R5 PU hm hit hins hmc hmc2 hm0 hmN f0 hfr
          obtain ⟨f0, f1, f2⟩ := Fl2.flow R7
          obtain ⟨d, hd⟩ : ∃ d, Aside (d = min fout.toNat L1) := ⟨_, ⟨rfl⟩⟩
          have hOL : Aside (outs.length + d ≤ 140737488355328) := ⟨by
            obtain ⟨_, p2, p3, _, p5⟩ := PU1.it
            have h3 : (k + 1) * 1048576 ≤ 1048577 * 1048576 := Nat.mul_le_mul_right _ (by omega)
            have h4 := R7.it.len
            have h5 := hd.it
            rw [p2, List.length_append] at p3
            omega⟩
          go_upto_if 76 with fail
          go_cut [8] from 42 to 141 (fun v wx => ∃ (OL2 L2 : Nat) (oa2 : Option Addr) (oc2 : Nat) (items2 outs2 ts2 : List Int) (tv2 : Value) (own2 : Nat → Nat), v = .slice oa2 OL2 oc2 ∧ Aside (ins1 = outs2 ++ items2 ∧ outs2.length = OL2) ∧ Aside (Fl2 w x cap items2 L2 (.slice q7 l7 c7) ins1 (.slice oa2 OL2 oc2) outs2 tv2 ts2 b [.slice fp N fcap, .int .i64 fout, .bool drop] own2 wx))
          case first =>
            as_aux_lemma =>
              cases drop
              · have PP := Aside.mk (fl_pop R7 fout)
                rw [← hd.it] at PP
                go_upto_region 22 with (first | (go_at_call 12; refine PP.it.mono ?_; rintro e w8 ⟨sq, own8, rfl, R8⟩) | fail)
                clear f0 f1 f2 PP
                obtain ⟨f0, f1, f2⟩ := Fl2.flow R8
                go_cut [117] from 42 to 141 (fun v wx => v = .bool false ∧ wx = w8)
                case first =>
                  as_aux_lemma =>
                    have d0 : (0 : Int) ≤ d := by omega
                    by_cases c1 : fout < 0
                    · have e1 : ¬ 0 < d := by have := hd.it; omega
                      have e2 : ¬ (0 : Int) < d := by omega
                      go_wp2_with fail
                      all_goals first
                        | (exfalso; omega)
                        | skip
                      go_meet
                      case rel => first | exact ⟨rfl, rfl⟩ | exact ⟨by simp [*], rfl⟩
                    · have e2 : ¬ fout < (d : Int) := by have := hd.it; omega
                      go_wp2_with fail
                      all_goals first
                        | (exfalso; omega)
                        | skip
                      go_meet
                      case rel => first | exact ⟨rfl, rfl⟩ | exact ⟨by simp [*], rfl⟩
                case rest =>
                  obtain ⟨rfl, rfl⟩ := hcut
                  have OO := Aside.mk R8.it.out.1
                  have RT := Aside.mk R8.it.tmp.rdB
                  have hlt2 : Aside (outs.length + (items1.take d).length ≤ 140737488355328) := ⟨by have := hOL.it; rw [List.length_take]; omega⟩
                  clear f0 f1 f2
                  go_wp2_with (first | (at_builtin; refine wpList_appendO rfl (.tmp 118) (.tmp 119) rfl (.slice oa OL oc) (.slice sq d d) outs (items1.take d) OO.it RT.it hlt2.it rfl (by first | rfl | simp [Act.eval]) ?_; intro q9 l9 c9 w9 o9 k9 b9) | fail)
                  go_meet
                  case rel =>
                    obtain ⟨own9, R9⟩ := Fl2.outApp R8 o9 k9 b9
                    exact ⟨l9, _, q9, c9, _, _, _, _, own9, rfl, ⟨by rw [PU1.it.2.1, List.append_assoc, List.take_append_drop], by obtain ⟨_, _, e⟩ := R9.it.out.shape; injection e with _ e _; exact e.symm⟩, R9⟩
              · have PK := Aside.mk (fl_peek R7)
                have DR := Aside.mk (fun q own' w' (h : Aside (Fl2 w x cap items1 L1 (.slice q7 l7 c7) ins1 (.slice oa OL oc) outs (.slice q L1 L1) items1 b [.slice fp N fcap, .int .i64 fout, .bool true] own' w')) => fl_drop h fout)
                rw [← hd.it] at DR
                go_upto_region 17 with (first
                  | (go_at_call 10; with_reducible refine (fl_len R7).mono ?_; rintro e w8 ⟨rfl, rfl⟩)
                  | (go_at_call 9; refine PK.it.mono ?_; rintro e w8 ⟨sq, own8, rfl, R8⟩)
                  | fail)
                clear f0 f1 f2 PK
                obtain ⟨f0, f1, f2⟩ := Fl2.flow R8
                go_upto_region 18 with (first
                  | (go_at_call 11; refine (DR.it _ _ _ R8).mono ?_; rintro e w9 ⟨own9, rfl, R9⟩)
                  | fail)
                clear f0 f1 f2 DR
                obtain ⟨f0, f1, f2⟩ := Fl2.flow R9
                go_cut [102] from 42 to 141 (fun v wx => v = .bool false ∧ wx = w9)
                case first =>
                  as_aux_lemma =>
                    have d0 : (0 : Int) ≤ d := by omega
                    have d1 : (d : Int) ≤ L1 := by have := hd.it; omega
                    have d2 : ¬ L1 < d := by omega
                    have g1 : decide ((d : Int) < 0) = false := decide_eq_false (by omega)
                    have g2 : decide (L1 < d) = false := decide_eq_false (by omega)
                    by_cases c1 : fout < 0
                    · have e1 : ((d : Int) != 0) = false := by
                        have h3 : (d : Int) = 0 := by have := hd.it; omega
                        simp [h3]
                      have e2 : ¬ (L1 : Int) < 0 := by omega
                      go_wp2_with fail
                      all_goals first
                        | (exfalso; omega)
                        | skip
                      go_meet
                      case rel => first | exact ⟨rfl, rfl⟩ | exact ⟨by rw [g1, g2]; rfl, rfl⟩ | exact ⟨by simp [*], rfl⟩
                    · by_cases c2 : (L1 : Int) < fout
                      · have e1 : ((d : Int) != L1) = false := by
                          have h3 : (d : Int) = L1 := by have := hd.it; omega
                          simp [h3]
                        have e3 : (d != L1) = false := by
                          have h3 : d = L1 := by have := hd.it; omega
                          simp [h3]
                        go_wp2_with fail
                        all_goals first
                          | (exfalso; omega)
                          | skip
                        go_meet
                        case rel => first | exact ⟨rfl, rfl⟩ | exact ⟨by rw [g1, g2]; rfl, rfl⟩ | exact ⟨by simp [*], rfl⟩
                      · have e1 : ((d : Int) != fout) = false := by
                          have h3 : (d : Int) = fout := by have := hd.it; omega
                          simp [h3]
                        go_wp2_with fail
                        all_goals first
                          | (exfalso; omega)
                          | skip
                        go_meet
                        case rel => first | exact ⟨rfl, rfl⟩ | exact ⟨by rw [g1, g2]; rfl, rfl⟩ | exact ⟨by simp [*], rfl⟩
                case rest =>
                  obtain ⟨rfl, rfl⟩ := hcut
                  have OO := Aside.mk R9.it.out.1
                  have hdL : d ≤ L1 := by have := hd.it; omega
                  have hdL2 : (d : Int) ≤ L1 := by omega
                  have hd0 : (0 : Int) ≤ d := by omega
                  have RT := Aside.mk (Rd.pre R9.it.tmp.rdB (n := d) (by have := R8.it.len; omega))
                  have hlt2 : Aside (outs.length + (items1.take d).length ≤ 140737488355328) := ⟨by have := hOL.it; rw [List.length_take]; omega⟩
                  clear f0 f1 f2
                  go_wp2_with (first | (at_builtin; refine wpList_appendO rfl (.tmp 103) (.tmp 106) rfl (.slice oa OL oc) (.slice sq d L1) outs (items1.take d) OO.it RT.it hlt2.it rfl (by first | rfl | simp [Act.eval]) ?_; intro q10 l10 c10 w10 o10 k10 b10) | fail)
                  all_goals first
                    | (exfalso; omega)
                    | skip
                  go_meet
                  case rel =>
                    obtain ⟨own10, R10⟩ := Fl2.outApp R9 o10 k10 b10
                    exact ⟨l10, _, q10, c10, _, _, _, _, own10, rfl, ⟨by rw [PU1.it.2.1, List.append_assoc, List.take_append_drop], by obtain ⟨_, _, e⟩ := R10.it.out.shape; injection e with _ e _; exact e.symm⟩, R10⟩
          case rest =>
            clear R7 hLc1 f0 f1 f2 hOL hd
            obtain ⟨OL2, L2, oa2, oc2, items2, outs2, ts2, tv2, own2, rfl, PU2, HP⟩ := hcut
            have hLc2 := (Fl2.len_cap HP).1
            have CVI : Aside (∀ tv ts own' w', Aside (Fl2 w x cap items2 L2 (.slice q7 l7 c7) ins1 (.slice oa2 OL2 oc2) outs2 tv ts b [.slice fp N fcap, .int .i64 fout, .bool drop] own' w') → (convert 29 9 (.slice q7 l7 c7)).run Tryd.prog w' = .ok (.string (strOf ins1)) w' ∧ (convert 29 9 (.slice oa2 OL2 oc2)).run Tryd.prog w' = .ok (.string (strOf outs2)) w') := ⟨fun _ _ _ _ h => ⟨run_bytesStr _ _ _ _ _ _ Tryd.underlying29 Tryd.underlying5 Tryd.underlying9 h.it.inn.rd.holds, run_bytesStr _ _ _ _ _ _ Tryd.underlying29 Tryd.underlying5 Tryd.underlying9 h.it.out.rd.holds⟩⟩
            have hstr : Aside (strOf outs2 ++ strOf items2 = strOf ins1) := ⟨by rw [PU2.it.1]; apply ByteArray.ext; simp [strOf, ByteArray.data_append]⟩
            have hsz : (strOf outs2).size + (strOf items2).size ≤ 9223372036854775807 := by
              have e1 := PU1.it.2.2.1
              have e2 := PU1.it.2.2.2.2
              have h3 : (k + 1) * 1048576 ≤ 1048577 * 1048576 := Nat.mul_le_mul_right _ (by omega)
              rw [PU2.it.1, List.length_append] at e1
              have s1 : (strOf outs2).size = outs2.length := by simp [strOf, ByteArray.size]
              have s2 : (strOf items2).size = items2.length := by simp [strOf, ByteArray.size]
              omega
            have HPd := Fl2.quiet HP (Keeps.refl _ _).drew
            obtain ⟨v0, v1⟩ := CVI.it _ _ _ _ HP
            obtain ⟨fr2, hfr2⟩ : ∃ fr2 : Int, Aside (fr2 = (cap : Int) - L2) := ⟨_, ⟨rfl⟩⟩
            have FRE : Aside (∀ tv ts own' w', Aside (Fl2 w x cap items2 L2 (.slice q7 l7 c7) ins1 (.slice oa2 OL2 oc2) outs2 tv ts b [.slice fp N fcap, .int .i64 fout, .bool drop] own' w') → Calls Tryd.prog 7 #[x] w' fun e w'' => e = .returned (.int .i64 fr2) ∧ w'' = w') := ⟨fun _ _ _ _ h => by rw [hfr2.it]; exact fl_free h⟩
            have hsum : (L2 : Int) + fr2 = cap := by have := hfr2.it; omega
            have hs1 := hstr.it
            have ADD := fun w' => run_string_add_sum (P := Tryd.prog) (w := w') _ _ hsz
            rw [hs1] at ADD
            clear hs1
            have y1 : (0 : Int) ≤ fr2 := by have := hfr2.it; omega
            have y2 : fr2 ≤ 2147483647 := by have := hfr2.it; omega
            have y3 : (L2 : Int) ≤ 2147483647 := by omega
            have y4 : IntKind.i64.wrap (cap : Int) = cap := by rw [IntKind.wrap_i64]; omega
            go_upto_region 25 with fail
            go_region_held_law (fun w' => (convert 29 9 (.slice q7 l7 c7)).run Tryd.prog w' = .ok (.string (strOf ins1)) w' ∧ (convert 29 9 (.slice oa2 OL2 oc2)).run Tryd.prog w' = .ok (.string (strOf outs2)) w') (exact CVI.it _ _ _ _ (by with_reducible assumption)) (first
              | (go_at_call 10; with_reducible refine (fl_len (by with_reducible assumption)).mono ?_; rintro e w8 ⟨rfl, rfl⟩)
              | (go_at_call 7; with_reducible refine (FRE.it _ _ _ _ (by with_reducible assumption)).mono ?_; rintro e w8 ⟨rfl, rfl⟩)
              | (go_at_call 9; with_reducible refine (fl_peek (by with_reducible assumption)).mono ?_; rintro e w8 ⟨sq, own8, rfl, P8⟩; have cv8 := run_bytesStr _ _ _ _ _ _ Tryd.underlying29 Tryd.underlying5 Tryd.underlying9 P8.it.tmp.rdB.holds)
              | fail)
            all_goals go_wp2_with fail
            all_goals first
              | (exfalso; omega)
              | skip
            all_goals (go_roundw; (case rel => exact ⟨k + 1, L2, l7, OL2, q7, oa2, c7, oc2, items2, ins1, outs2, _, rfl, rfl, by go_num, by omega, ⟨PU1.it.1, PU2.it.1, PU1.it.2.2.1, PU2.it.2, PU1.it.2.2.2.2⟩, Fl2.ends (by with_reducible assumption)⟩); (case measure => simp [intOf]; omega))
end Go.Proofs.YtgoikhfikmmngaaDoor
