/-
  culvertlaw17.PingsOnce
-/
import Derived.Test.YtnmpnajmhfonhaaDoorPgE
namespace Go.Proofs.YtnmpnajmhfonhaaDoor
open Go.RowKit
attribute [-go_sem] Builtin.append_

set_option maxRecDepth 20000 in
set_option maxHeartbeats 2000000 in
theorem once_bad {A : Nat → Addr} (n : Int) (hn : n < 1 ∨ 1024 < n) (sv : Value) (w : World) (hs : Sents 124 codeVars A w) :
    Calls Tryd.prog 5 #[.int .i64 n, sv] w fun e w' => e = .returned (.bool true) ∧ Below w.heap.size w w' := by
  have F := Aside.mk (fixed17 hs)
  have HS := Aside.mk hs
  clear hs
  have HN := Aside.mk hn
  clear hn
  go_enter Tryd.func5, Tryd.ntmps5
  go_upto_region 3 with (go_at_call 12; refine F.it.mono ?_; rintro e w1 ⟨rfl, K1⟩)
  have N1 := Aside.mk (pnew_no n w1 _ ((HS.it.later K1.it.bel).cell 1 _ rfl) HN.it)
  go_upto_region 4 with (first | (go_at_call 8; refine N1.it.mono ?_; clear N1; rintro e w2 ⟨rfl, K2⟩) | fail)
  rcases HN.it with h1 | h1
  · go_wp2_with fail
    go_ret
    exact ⟨rfl, (K1.it.trans K2.it).bel⟩
  · have h2 : ¬ n < 1 := by omega
    go_wp2_with fail
    go_ret
    exact ⟨rfl, (K1.it.trans K2.it).bel⟩

set_option maxRecDepth 20000 in
set_option maxHeartbeats 8000000 in
theorem once_good {A : Nat → Addr} (n : Nat) (h1 : 1 ≤ n) (h2 : n ≤ 1024) (sv : Value) (zs : List OpV17) (w : World) (hs : Sents 124 codeVars A w) (hz : Ops17ArgU w sv zs) :
    Calls Tryd.prog 5 #[.int .i64 n, sv] w fun e w' => e = .returned (.bool true) ∧ Below w.heap.size w w' := by
  have F := Aside.mk (fixed17 hs)
  have HS := Aside.mk hs
  have H12 := Aside.mk (And.intro h1 h2)
  obtain ⟨hz, hz20⟩ := hz
  have HZ := Aside.mk hz
  obtain ⟨sa, sc, rfl, hsc, hsm, _⟩ := hz
  obtain ⟨M, hM⟩ : ∃ M, zs.length = M := ⟨_, rfl⟩
  rw [hM] at HZ hsc hz20 ⊢
  have HM := Aside.mk hM
  have hMm : (M : Int) ≤ 1048576 := by omega
  have bq : (n : Int) ≤ 1024 := by omega
  clear hs h1 h2 hM
  go_enter Tryd.func5, Tryd.ntmps5
  go_upto_region 3 with (go_at_call 12; refine F.it.mono ?_; rintro e w1 ⟨rfl, K1⟩)
  have N1 := Aside.mk (pnew_ok n H12.it.1 H12.it.2 w1 (fun _ => 0) 1 1)
  clear F
  go_upto_region 4 with (first | (go_at_call 8; refine N1.it.mono ?_; clear N1; rintro e w2 ⟨p, rfl, T2, _, K2⟩) | fail)
  obtain ⟨own2, Q2⟩ : ∃ own2, Aside (On A w own2 w2 (ptr p) (Pm.new n) (.slice none 0 0) [] (.slice none 0 0) [] (.slice none 0 0) []) := by
    have G1 := (OnG.start HS.it).sn (I := fun _ => False) (Sn.same K1.it) (fun x => x)
    have s2 : Sn (fun _ => False) (fun _ => 0) w1 (give (fun _ => 0) w1.heap.size 1) w2 := Sn.quiet K2.it 1
    exact ⟨_, ⟨G1.sn s2 (fun x => x), .inr ⟨p, rfl, T2.it⟩, RowU.nil _ _ _, RowU.nil _ _ _, RowU.nil _ _ _⟩⟩
  have B2 := Aside.mk (Bk.start H12.it.1 H12.it.2)
  clear T2
  go_upto_region 8 with fail
  go_loopw [7, 8, 9, 44] (fun av hv tv jv wr => ∃ (j la lh lt : Nat) (a : Option Addr) (c : Nat) (h : Option Addr) (d : Nat) (t : Option Addr) (e : Nat) (m : Pm) (La Lh Lt : List Nat) (own : Nat → Nat), av = .slice a la c ∧ hv = .slice h lh d ∧ tv = .slice t lt e ∧ jv = .int .i64 j ∧ j ≤ M ∧ Aside (La.length = la ∧ Lh.length = lh ∧ Lt.length = lt) ∧ Aside (m.last ≤ j ∧ Lh.length ≤ j) ∧ Aside (Bk n m La Lh Lt) ∧ Aside (On A w own wr (ptr p) m (.slice a la c) La (.slice h lh d) Lh (.slice t lt e) Lt)) (fun _ _ _ jv _ => M - natOf jv)
  case atStart => exact ⟨0, 0, 0, 0, none, 0, none, 0, none, 0, Pm.new n, [], [], [], own2, rfl, rfl, rfl, rfl, Nat.zero_le _, ⟨rfl, rfl, rfl⟩, ⟨Nat.le_refl _, Nat.le_refl _⟩, B2, Q2⟩
  case round =>
    clear B2 Q2
    obtain ⟨j, la, lh, lt, a, c, h, d, t, e, m, La, Lh, Lt, own, rfl, rfl, rfl, rfl, hj, HL, HJ, BK, Q⟩ := hrel
    have hlen : (la : Int) - lh = m.L.length := by have := BK.it.len; have := HL.it; omega
    rcases Nat.eq_or_lt_of_le hj with rfl | hlt
    · have AQ := Aside.mk (on_ans Q)
      obtain ⟨q, hq⟩ : ∃ q, m.an.length = q := ⟨_, rfl⟩
      have HQ := Aside.mk hq
      rw [hq] at AQ
      clear hq
      go_upto_region 27 with fail
      have LT : Aside (lt + q = lh) := ⟨by have h1 := congrArg List.length BK.it.t; rw [List.length_append, HQ.it] at h1; have := HL.it; omega⟩
      have AP := Aside.mk (fun W' (X : Aside (On A w own W' (ptr p) m.told (.slice a la c) La (.slice h lh d) Lh (.slice t lt e) Lt)) sv (R : Aside (ReadsK 1 W' sv m.an.length (m.an.map e32))) => X.it.appT R.it (by rw [HL.it.2.2, HQ.it]; have := LT.it; have := HJ.it; have := HL.it; omega))
      go_upto_region 28 with (first
        | (go_at_call 16; refine AQ.it.mono ?_; clear AQ; rintro e' w6 ⟨a6, c6, rfl, R6, X6⟩; obtain ⟨a7, c7, w7, own7, run7, X7⟩ := AP.it w6 X6 _ (by rw [HQ.it]; exact R6); rw [HL.it.2.2, HQ.it, LT.it] at run7 X7)
        | fail)
      have X8 : Aside (On A w own7 w7 (ptr p) m.told (.slice a la c) La (.slice h lh d) Lh (.slice a7 lh c7) Lh) := ⟨by have := X7.it; rw [BK.it.t] at this; exact this⟩
      have WT := Aside.mk (on_wait X8.it w7 ⟨Keeps.refl _ _⟩)
      obtain ⟨K, hK⟩ : ∃ K, m.L.length = K := ⟨_, rfl⟩
      have HK := Aside.mk hK
      rw [show m.told.L.length = m.L.length from rfl, hK] at WT
      rw [hK] at hlen
      clear X7 X6 AP hK
      go_upto_region 30 with (first
        | (go_at_call 11; refine WT.it.mono ?_; clear WT; rintro e' w9 ⟨a9, c9, rfl, R9, K9⟩)
        | fail)
      have X9 := Aside.mk (X8.it.quiet K9.it)
      clear X8 K9
      have hla : (la : Int) ≤ 1048576 := by have := BK.it.lenA; have := HL.it; have := HJ.it; omega
      have hlh : (lh : Int) ≤ 1048576 := by have := HL.it; have := HJ.it; omega
      have hKm : (K : Int) ≤ 1024 := by have := BK.it.f.ok.wl; have := BK.it.f.ok.top; have := HK.it; omega
      obtain ⟨g1, g2, hg, hla2, _, CA⟩ := ReadsK.at1 X9.it.a.reads
      injection hg with hg1 hg2 hg3
      subst hg1 hg3
      clear hg2
      obtain ⟨g1, g2, hg, hlh2, _, CH⟩ := ReadsK.at1 X9.it.h.reads
      injection hg with hg1 hg2 hg3
      subst hg1 hg3
      clear hg2
      have R9' : ReadsK 1 w9 (.slice a9 K c9) (ks m.L).length ((ks m.L).map e32) := by rw [len_ks, HK.it]; exact R9.it
      obtain ⟨g1, g2, hg, hk2, _, CL⟩ := ReadsK.at1 R9'
      injection hg with hg1 hg2 hg3
      subst hg1 hg3
      clear hg2 R9'
      have CA := Aside.mk CA
      have CH := Aside.mk CH
      have CL := Aside.mk CL
      rw [HL.it.1] at hla2
      rw [HL.it.2.1] at hlh2
      rw [len_ks, HK.it] at hk2
      have SM := Aside.mk (same17 _ _ Lh X9.it.t.reads X9.it.h.reads)
      have LK : Aside ((ks m.L).length = K) := ⟨by rw [len_ks]; exact HK.it⟩
      go_upto_region 31 with fail
      go_loopw [15, 120] (fun av jv wr => ∃ (i at' : Nat), av = .int .i64 at' ∧ jv = .int .i64 i ∧ i ≤ la ∧ at' ≤ la ∧ wr = w9 ∧ Aside (((La.take i).filter (fun x => !Lh.contains x)).length = at')) (fun _ jv _ => la - natOf jv)
      case atStart => exact ⟨0, 0, rfl, rfl, Nat.zero_le _, Nat.zero_le _, rfl, ⟨rfl⟩⟩
      case round =>
        obtain ⟨i, at', rfl, rfl, hi, hat, rfl, HA⟩ := hrel
        rcases Nat.eq_or_lt_of_le hi with rfl | hilt
        · have e1 : at' = K := by
            have := HA.it
            rw [List.take_of_length_le (by rw [HL.it.1]; exact Nat.le_refl _), ← BK.it.l, LK.it] at this
            exact this.symm
          subst e1
          go_wp2_with (first | (go_at_call 15; refine SM.it.mono ?_; clear SM; rintro e' w10 ⟨rfl, K10⟩) | fail)
          go_ret
          exact ⟨rfl, ((Keeps.ofBelow X9.it.g.g.bel).trans K10.it).bel⟩
        · obtain ⟨y, hy⟩ : ∃ y, La[i]? = some y := ⟨_, List.getElem?_eq_getElem (by rw [HL.it.1]; exact hilt)⟩
          obtain ⟨ga, oa, rfl, ya⟩ := CA.it i y hy
          have HY := Aside.mk hy
          clear hy
          go_upto_region 35 with fail
          go_loopw [18, 127] (fun wv qv wr2 => ∃ (q k : Nat), wv = .int .i64 k ∧ qv = .int .i64 q ∧ q ≤ lh ∧ k ≤ q ∧ wr2 = wr ∧ Aside ((Lh.take q).count y = k)) (fun _ qv _ => lh - natOf qv)
          case atStart => exact ⟨0, 0, rfl, rfl, Nat.zero_le _, Nat.zero_le _, rfl, ⟨rfl⟩⟩
          case round =>
            obtain ⟨q2, k2, rfl, rfl, hq2, hkq, rfl, HC⟩ := hrel
            rcases Nat.eq_or_lt_of_le hq2 with rfl | hqlt
            · have HC2 : Aside (k2 = if y ∈ Lh then 1 else 0) := ⟨by
                have := HC.it
                rw [List.take_of_length_le (by rw [HL.it.2.1]; exact Nat.le_refl _), count_heard BK.it.h.1] at this
                exact this.symm⟩
              clear HC hq2 hkq
              have hi0 : (0 : Int) ≤ i := by omega
              have hic : (i : Int) ≤ c := by omega
              go_upto_region 41 with fail
              go_loopw [141] (fun qv wr3 => ∃ (q : Nat), qv = .int .i64 q ∧ q ≤ i ∧ wr3 = wr) (fun qv _ => i - natOf qv)
              case atStart => exact ⟨0, rfl, Nat.zero_le _, rfl⟩
              case round =>
                obtain ⟨q3, rfl, hq3, rfl⟩ := hrel
                rcases Nat.eq_or_lt_of_le hq3 with rfl | hq3lt
                · by_cases hyh : y ∈ Lh
                  · have ek : k2 = 1 := by have := HC2.it; rw [if_pos hyh] at this; exact this
                    subst ek
                    have HN2 : Aside (((La.take (q3 + 1)).filter (fun x => !Lh.contains x)).length = at') := ⟨by rw [filter_not HY.it (by simp [hyh])]; exact HA.it⟩
                    clear hyh
                    go_wp2_with fail
                    go_roundw
                    case rel => exact ⟨q3 + 1, at', rfl, by go_num, by omega, hat, by trivial, HN2⟩
                    case measure => simp [natOf]; omega
                  · have ek : k2 = 0 := by have := HC2.it; rw [if_neg hyh] at this; exact this
                    subst ek
                    obtain ⟨f1, f2⟩ := filter_at (p := fun x => !Lh.contains x) HY.it (by simp [hyh])
                    rw [HA.it, ← BK.it.l] at f1
                    rw [HA.it] at f2
                    have HN2 := Aside.mk f2
                    have hatK : at' < K := by
                      have := (List.getElem?_eq_some_iff.1 f1).1
                      rw [LK.it] at this
                      exact this
                    obtain ⟨gl, ol, rfl, yl⟩ := CL.it at' y f1
                    have hatc : ¬ (K : Int) ≤ at' := by omega
                    have eyy : ((y : Int) != y) = false := by simp
                    have hata : (at' : Int) ≤ 1048576 := by omega
                    clear hyh f1 f2
                    go_wp2_with fail
                    go_roundw
                    case rel => exact ⟨q3 + 1, at' + 1, by go_num, by go_num, by omega, by omega, by trivial, HN2⟩
                    case measure => simp [natOf]; omega
                · obtain ⟨u, hu⟩ : ∃ u, La[q3]? = some u := ⟨_, List.getElem?_eq_getElem (by rw [HL.it.1]; omega)⟩
                  obtain ⟨gu, ou, hgu, yu⟩ := CA.it q3 u hu
                  injection hgu with hgu
                  injection hgu with hgu1 hgu2
                  subst hgu1 hgu2
                  have huy : ((u : Int) == y) = false := by
                    have : u ≠ y := by
                      intro e'
                      subst e'
                      have h1 := List.getElem?_eq_some_iff.1 hu
                      have h2 := List.getElem?_eq_some_iff.1 HY.it
                      have := (List.getElem_inj BK.it.nodup (h₀ := h1.1) (h₁ := h2.1)).1 (h1.2.trans h2.2.symm)
                      omega
                    simp
                    omega
                  clear hu
                  go_wp2_with fail
                  go_roundw
                  case rel => exact ⟨q3 + 1, by go_num, by omega, by trivial⟩
                  case measure => simp [natOf]; omega
            · obtain ⟨z, hz⟩ : ∃ z, Lh[q2]? = some z := ⟨_, List.getElem?_eq_getElem (by rw [HL.it.2.1]; exact hqlt)⟩
              obtain ⟨gh, oh, rfl, yh⟩ := CH.it q2 z hz
              have hkb : (k2 : Int) ≤ 1048576 := by omega
              by_cases hzy : z = y
              · have ez : ((z : Int) == y) = true := by simp [hzy]
                have H2 : Aside ((Lh.take (q2 + 1)).count y = k2 + 1) := ⟨by rw [List.take_add_one, hz, List.count_append, HC.it]; simp [hzy]⟩
                clear hz hzy
                go_wp2_with fail
                go_roundw
                case rel => exact ⟨q2 + 1, k2 + 1, by go_num, by go_num, by omega, by omega, by trivial, H2⟩
                case measure => simp [natOf]; omega
              · have ez : ((z : Int) == y) = false := by simp; omega
                have H2 : Aside ((Lh.take (q2 + 1)).count y = k2) := ⟨by rw [List.take_add_one, hz, List.count_append, HC.it]; simp [hzy]⟩
                clear hz hzy
                go_wp2_with fail
                go_roundw
                case rel => exact ⟨q2 + 1, k2, by go_num, by go_num, by omega, by omega, by trivial, H2⟩
                case measure => simp [natOf]; omega
    · obtain ⟨z, hz⟩ : ∃ z, zs[j]? = some z := ⟨_, List.getElem?_eq_getElem (by rw [HM.it]; exact hlt)⟩
      have hzw := HZ.it
      rw [← HM.it] at hzw
      obtain ⟨sb, so, rfl, x0, x1, hid⟩ := op17_cells hzw hz
      clear hz hzw
      obtain ⟨kd, id⟩ := z
      simp only at x0 x1 hid
      have KW : Keeps Nowhere w wr := Keeps.ofBelow Q.it.g.g.bel
      have z0 : wr.cell? ⟨sb, so + j * 2, none⟩ = some (.int .i64 kd) := by rw [World.cell?_of_block (w := w) (KW.block sb (World.block_lt_of_cell? w _ x0) (fun x => x))]; exact x0
      have z1 : wr.cell? ⟨sb, so + j * 2 + 1, none⟩ = some (.int .u32 (id : Nat)) := by rw [World.cell?_of_block (w := w) (KW.block sb (World.block_lt_of_cell? w _ x0) (fun x => x))]; exact x1
      have HID := Aside.mk hid
      clear x0 x1 KW hid
      have Q2 := Aside.mk (Q.it.step ((Keeps.refl _ _).alloc (.cells #[.int .i64 kd, .int .u32 (id : Nat)] 39)) 8)
      have OB : Cells (wr.alloc (.cells #[.int .i64 kd, .int .u32 (id : Nat)] 39)) wr.heap.size 39 [.int .i64 kd, .int .u32 (id : Nat)] := Cells.new wr _ _
      have d0 := OB.cell 0
      have d1 := OB.cell 1
      simp only [List.getElem?_cons_zero, List.getElem?_cons_succ] at d0 d1
      have OBX : Aside (CellsO (give own wr.heap.size 8) 8 (wr.alloc (.cells #[.int .i64 kd, .int .u32 (id : Nat)] 39)) wr.heap.size 39 [.int .i64 kd, .int .u32 (id : Nat)]) := ⟨OB, give_new (Nat.le_refl _)⟩
      go_upto_region 10 with fail
      clear z0 z1 OB Q
      generalize (wr.alloc (.cells #[.int .i64 kd, .int .u32 (id : Nat)] 39)) = W2 at Q2 d0 d1 OBX ⊢
      generalize give own wr.heap.size 8 = own1 at Q2 OBX
      generalize wr.heap.size = ob at d0 d1 OBX ⊢
      go_upto_block 2 with fail
      go_cut [7, 8, 9] (fun av hv tv wx => ∃ (la lh lt : Nat) (a : Option Addr) (c : Nat) (h : Option Addr) (d : Nat) (t : Option Addr) (e : Nat) (m : Pm) (La Lh Lt : List Nat) (own : Nat → Nat), av = .slice a la c ∧ hv = .slice h lh d ∧ tv = .slice t lt e ∧ Aside (La.length = la ∧ Lh.length = lh ∧ Lt.length = lt) ∧ Aside (m.last ≤ j + 1 ∧ Lh.length ≤ j + 1) ∧ Aside (Bk n m La Lh Lt) ∧ Aside (On A w own wx (ptr p) m (.slice a la c) La (.slice h lh d) Lh (.slice t lt e) Lt))
      case first =>
        obtain ⟨K, hK⟩ : ∃ K, m.L.length = K := ⟨_, rfl⟩
        have HK := Aside.mk hK
        rw [hK] at hlen
        clear hK
        have hla : (la : Int) ≤ 1048576 := by have := BK.it.lenA; have := HL.it; have := HJ.it; omega
        have hlh : (lh : Int) ≤ 1048576 := by have := HL.it; have := HJ.it; omega
        have hb9 : m.last < 4294967295 := by have := HJ.it; omega
        have HB9 := Aside.mk hb9
        clear hb9
        by_cases k0 : kd = 0
        · subst k0
          have AQ := Aside.mk (on_ask Q2)
          by_cases hf : n ≤ K
          · obtain ⟨e1, e2⟩ := BK.it.full (by rw [HK.it]; exact hf)
            rw [e1, e2] at AQ
            have hfd : decide (n ≤ K) = true := decide_eq_true hf
            clear e1 e2 hf
            go_upto_region 13 with (first | (go_at_call 17; refine AQ.it.mono ?_; clear AQ; rintro e w6 ⟨ev6, rfl, C6, X6⟩) | fail)
            obtain ⟨a6, e6⟩ := Coded.pos C6.out (by decide)
            subst e6
            clear C6
            go_wp2_with fail
            go_meet
            case rel => exact ⟨la, lh, lt, a, c, h, d, t, e, m, La, Lh, Lt, own1, rfl, rfl, rfl, HL, ⟨by have := HJ.it; omega⟩, BK, X6⟩
          · obtain ⟨e1, e2, e3⟩ := BK.it.ask HB9.it (by rw [HK.it]; exact hf)
            rw [e1, e2] at AQ
            have hfd : decide (n ≤ K) = false := decide_eq_false hf
            have B6 := Aside.mk e3
            clear e1 e2 hf e3
            go_upto_region 13 with (first | (go_at_call 17; refine AQ.it.mono ?_; clear AQ; rintro e w6 ⟨ev6, rfl, C6, X6⟩) | fail)
            have e6 : ev6 = .nilIface := Coded.zero C6.out
            subst e6
            obtain ⟨a7, c7, w7, own7, run7, X7⟩ := X6.it.appA (m.last + 1) (by have := BK.it.lenA; have := HJ.it; omega)
            rw [HL.it.1] at run7 X7
            have hll : m.ask.last ≤ m.last + 1 := m.last_ask HB9.it
            have HLL := Aside.mk hll
            have rn : ∀ ty, (Builtin.append_ #[29, 29] ty #[.slice a la c, .slice (some ⟨w6.heap.size, 0, none⟩) 1 1]).run Tryd.prog (w6.alloc (.cells #[.int .u32 ((m.last : Int) + 1)] 37)) = .ok (.slice a7 (la + 1) c7) w7 := run7
            clear C6 hll
            go_wp2_with fail
            go_meet
            case rel => exact ⟨la + 1, lh, lt, a7, c7, h, d, t, e, m.ask, La ++ [m.last + 1], Lh, Lt, own7, rfl, rfl, rfl, ⟨by simp [HL.it.1], HL.it.2.1, HL.it.2.2⟩, ⟨by have := HJ.it; have := HLL.it; omega⟩, B6, X7⟩
        by_cases k1 : kd = 1
        · subst k1
          have AQ := Aside.mk (on_heard Q2 id HID.it (by have h1 := BK.it.t; have h2 := congrArg List.length h1; rw [List.length_append] at h2; have := HJ.it; omega))
          cases hx : (tlook m.L id).isSome with
          | true =>
            obtain ⟨e1, e3⟩ := BK.it.heardYes hx
            rw [e1] at AQ
            have B6 := Aside.mk e3
            clear e1 e3 hx k0
            go_upto_region 18 with fail
            go_upto_if 79 with (first | (go_at_call 18; refine AQ.it.mono ?_; clear AQ; rintro e w6 ⟨ev6, own6, rfl, C6, X6, S6⟩; have e6 : ev6 = .nilIface := Coded.zero C6.out; subst e6) | fail)
            have b0 := (OBX.it.sn S6.it (by decide)).1.cell 0
            have b1 := (OBX.it.sn S6.it (by decide)).1.cell 1
            simp only [List.getElem?_cons_zero, List.getElem?_cons_succ] at b0 b1
            obtain ⟨a7, c7, w7, own7, run7, X7⟩ := X6.it.appH id (by have := HJ.it; omega)
            rw [HL.it.2.1] at run7 X7
            clear C6
            go_wp2_with fail
            go_meet
            case rel => exact ⟨la, lh + 1, lt, a, c, a7, c7, t, e, m.heard id, La, Lh ++ [id], Lt, own7, rfl, rfl, rfl, ⟨HL.it.1, by simp [HL.it.2.1], HL.it.2.2⟩, ⟨by rw [Pm.last_heard]; have := HJ.it; simp; omega⟩, B6, X7⟩
          | false =>
            obtain ⟨e1, e2⟩ := BK.it.heardNo hx
            rw [e1, e2] at AQ
            clear e1 e2 hx k0
            go_upto_if 79 with (first | (go_at_call 18; refine AQ.it.mono ?_; clear AQ; rintro e w6 ⟨ev6, own6, rfl, C6, X6, S6⟩; obtain ⟨a6, e6⟩ := Coded.pos C6.out (by decide); subst e6) | fail)
            go_wp2_with fail
            go_meet
            case rel => exact ⟨la, lh, lt, a, c, h, d, t, e, m, La, Lh, Lt, own6, rfl, rfl, rfl, HL, ⟨by have := HJ.it; omega⟩, BK, X6⟩
        by_cases k2 : kd = 2
        · subst k2
          clear k0 k1
          have AQ := Aside.mk (on_ans Q2)
          obtain ⟨q, hq⟩ : ∃ q, m.an.length = q := ⟨_, rfl⟩
          have HQ := Aside.mk hq
          rw [hq] at AQ
          clear hq
          go_upto_region 21 with fail
          have LT : Aside (lt + q = lh) := ⟨by have h1 := congrArg List.length BK.it.t; rw [List.length_append, HQ.it] at h1; have := HL.it; omega⟩
          have AP := Aside.mk (fun W' (X : Aside (On A w own1 W' (ptr p) m.told (.slice a la c) La (.slice h lh d) Lh (.slice t lt e) Lt)) sv (R : Aside (ReadsK 1 W' sv m.an.length (m.an.map e32))) => X.it.appT R.it (by rw [HL.it.2.2, HQ.it]; have := LT.it; omega))
          go_upto_region 22 with (first
            | (go_at_call 16; refine AQ.it.mono ?_; clear AQ; rintro e' w6 ⟨a6, c6, rfl, R6, X6⟩; obtain ⟨a7, c7, w7, own7, run7, X7⟩ := AP.it w6 X6 _ (by rw [HQ.it]; exact R6); rw [HL.it.2.2, HQ.it, LT.it] at run7 X7)
            | fail)
          have X8 : Aside (On A w own7 w7 (ptr p) m.told (.slice a la c) La (.slice h lh d) Lh (.slice a7 lh c7) Lh) := ⟨by have := X7.it; rw [BK.it.t] at this; exact this⟩
          have SM := Aside.mk (same17 _ _ Lh X8.it.t.reads X8.it.h.reads)
          have B8 := Aside.mk BK.it.told
          clear X7 X6 AP
          go_wp2_with (first
            | (go_at_call 15; refine SM.it.mono ?_; clear SM; rintro e' w8 ⟨rfl, K8⟩)
            | fail)
          go_meet
          case rel => exact ⟨la, lh, lh, a, c, h, d, a7, c7, m.told, La, Lh, Lh, own7, rfl, rfl, rfl, ⟨HL.it.1, HL.it.2.1, HL.it.2.1⟩, ⟨by show m.last ≤ _ ∧ _; have := HJ.it; omega⟩, B8, ⟨X8.it.quiet K8.it⟩⟩
        have q0 : (kd == 0) = false := beq_eq_false_iff_ne.2 k0
        have q1 : (kd == 1) = false := beq_eq_false_iff_ne.2 k1
        have q2 : (kd == 2) = false := beq_eq_false_iff_ne.2 k2
        clear k0 k1 k2
        go_wp2_with fail
        go_meet
        case rel => exact ⟨la, lh, lt, a, c, h, d, t, e, m, La, Lh, Lt, own1, rfl, rfl, rfl, HL, ⟨by have := HJ.it; omega⟩, BK, Q2⟩
      case rest =>
        obtain ⟨la, lh, lt, a, c, h, d, t, e, m, La, Lh, Lt, own, rfl, rfl, rfl, HL, HJ, BK, Q⟩ := hcut
        have WT := Aside.mk (on_wait Q.it)
        obtain ⟨k, hk⟩ : ∃ k, m.L.length = k := ⟨_, rfl⟩
        have hlen : (la : Int) - lh = k := by have := BK.it.len; have := HL.it; omega
        have hkn : ¬ n < k := by have := BK.it.f.ok.wl; have := BK.it.nn; omega
        rw [hk] at WT
        have KQ : Aside (Keeps Nowhere wc wc) := ⟨Keeps.refl _ _⟩
        have ekk : ((k : Int) != k) = false := by simp
        clear hk Q2
        go_wp2_with (first
          | (go_at_call 11; refine (WT.it _ (by with_reducible assumption)).mono ?_; rintro e w9 ⟨a9, c9, rfl, R9, K9⟩)
          | fail)
        go_roundw
        case rel => exact ⟨j + 1, la, lh, lt, a, c, h, d, t, e, m, La, Lh, Lt, own, rfl, rfl, rfl, by go_num, by omega, HL, HJ, BK, ⟨Q.it.quiet K9.it⟩⟩
        case measure => simp [natOf]; omega
/-- PingsOnce -/
theorem pingsOnce_walkU {A : Nat → Addr} (n : Int) (sv : Value) (zs : List OpV17) (w : World) (hs : Sents 124 codeVars A w) (hz : Ops17ArgU w sv zs) :
    Calls Tryd.prog 5 #[.int .i64 n, sv] w fun e w' => e = .returned (.bool true) ∧ Below w.heap.size w w' := by
  by_cases hn : n < 1 ∨ 1024 < n
  · exact once_bad n hn sv w hs
  · obtain ⟨m, rfl⟩ : ∃ m : Nat, n = m := ⟨n.toNat, by omega⟩
    exact once_good m (by omega) (by omega) sv zs w hs hz
end Go.Proofs.YtnmpnajmhfonhaaDoor
