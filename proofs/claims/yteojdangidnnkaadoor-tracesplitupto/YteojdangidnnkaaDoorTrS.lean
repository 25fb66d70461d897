/-
  culvertlaw24.TraceSplit
-/
import Derived.Test.YteojdangidnnkaaDoorTrQ2
import Derived.Test.YteojdangidnnkaaDoorTrT
import Derived.Deep.CutBlock
namespace Go.Proofs.YteojdangidnnkaaDoor
open Go.RowKit Go.Maps

/-- behind a round -/
def Kd (A : Nat → Addr) (w0 : World) (ph pg : Nat) (m n : Nat) (L : Hs) (W : World) : Prop := ∃ own T, T ≤ m ∧ L.length ≤ n ∧ Kw A w0 own W ph pg T L L [] (.slice none 0 0) []
set_option maxRecDepth 20000 in
set_option maxHeartbeats 8000000 in
theorem traceSplit_walkU {A : Nat → Addr} (key : Int) (s : Value) (zs : List OpV24) (w : World) (hs : LdT A w) (hkey : (Lit.int .i64 key).wf = true) (hz : Ops24ArgU w s zs) :
    Calls Tryd.prog 5 #[.int .i64 key, s] w fun e w' => e = .returned (.bool true) ∧ Below w.heap.size w w' := by
  obtain ⟨hz20, hz⟩ := hz
  have HZ := Aside.mk hz
  obtain ⟨a, c, rfl, hzc, hcm, _⟩ := hz
  obtain ⟨N, hN⟩ : ∃ N, zs.length = N := ⟨_, rfl⟩
  have HN := Aside.mk hN
  rw [hN] at hzc hz20 ⊢
  have FX := Aside.mk (fixed24 hs)
  have HS := Aside.mk hs
  have HK := Aside.mk (of_wf_i64 hkey)
  have hNm : (N : Int) ≤ 1048576 := by omega
  clear hs hN hkey
  go_enter Tryd.func5, Tryd.ntmps5
  go_upto_region 3 with (go_at_call 8; refine FX.it.mono ?_; rintro e w1 ⟨rfl, K1⟩)
  clear FX
  have NW := Aside.mk (newT w1 (fun _ => 0) 1)
  go_upto_region 4 with (first
    | (go_at_call 9; refine NV.it.mono ?_; clear NV; rintro e w3 ⟨pg, own3, rfl, X3⟩)
    | (go_at_call 9; refine NW.it.mono ?_; clear NW; rintro e w2 ⟨ph, own2, rfl, X2⟩; have NV := Aside.mk (newT w2 own2 2))
    | fail)
  have J2 : Aside (Kd A w ph pg 0 0 [] w3) := ⟨own3, 0, Nat.le_refl _, Nat.le_refl _, ⟨(((OnG.start HS.it.s).sn (I := fun _ => False) (Sn.same K1.it) (fun x => x)).sn X2.it.2.2 (fun x => x)).sn X3.it.2.2 (fun x => x), HS.it.p, X2.it.1.sn X3.it.2.2 (fun x => x), X3.it.1, (fun e he => by cases he), ⟨(RowB.nil own3 0 _).rd, fun g hg => by simp [Value.ownBlock] at hg⟩⟩⟩
  go_wp2_with fail
  go_loopw [22] (fun jv wr => ∃ (j : Nat) (L : Hs), jv = .int .i64 j ∧ j ≤ N ∧ Aside (Kd A w ph pg (j * 2097152) j L wr)) (fun jv _ => N - natOfT jv)
  case atStart => exact ⟨0, [], rfl, Nat.zero_le _, by simpa using J2⟩
  case round =>
    clear J2 X2 X3
    obtain ⟨j, L, rfl, hj, J⟩ := hrel
    rcases Nat.eq_or_lt_of_le hj with rfl | hlt
    · go_wp2_with fail
      go_ret
      obtain ⟨own, T, _, _, kw⟩ := J.it
      exact ⟨rfl, kw.g.g.bel⟩
    · obtain ⟨z, hz⟩ : ∃ z, zs[j]? = some z := ⟨_, List.getElem?_eq_getElem (by rw [HN.it]; exact hlt)⟩
      have hzw := HZ.it
      rw [HN.it] at hzw
      obtain ⟨b, o, rfl, OC, hrd, hby, hnb, hzk, hzn⟩ := op24_cells (by rw [HN.it]; exact hzw) hz
      clear hz hzw
      obtain ⟨kd, ky, n, nx, sl, ns⟩ := z
      simp only at OC hrd hnb hby hzn hzk
      obtain ⟨own, T, hT, hL, kw⟩ := J.it
      obtain ⟨sa, sc, hsl⟩ := hrd.shape
      subst hsl
      obtain ⟨B, hB⟩ : ∃ B, ns.length = B := ⟨_, rfl⟩
      have HB := Aside.mk hB
      have HRD := Aside.mk hrd
      have HBY := Aside.mk hby
      rw [hB] at OC HRD hnb
      have hsc : B ≤ sc := HRD.it.len.2
      have hb1 : Aside (T + B ≤ 70368744177664) := ⟨by omega⟩
      have hb2 : Aside (L.length + 1 ≤ 2147483648) := ⟨by omega⟩
      have hb3 : Aside (T + B + B ≤ 70368744177664) := ⟨by omega⟩
      have hb4 : Aside (T ≤ 70368744177664) := ⟨by omega⟩
      have hb5 : Aside (T ≤ (j + 1) * 2097152 ∧ T + B ≤ (j + 1) * 2097152 ∧ T + B + B ≤ (j + 1) * 2097152) := ⟨by omega⟩
      have hb6 : Aside (L.length + 1 ≤ j + 1 ∧ j + 1 ≤ 1048576) := ⟨by omega⟩
      have i1 : (j : Int) ≤ 9223372036854775806 := by omega
      have k0 := kw.g.cell OC.it.1
      have k1 := kw.g.cell OC.it.2.1
      have k2 := kw.g.cell OC.it.2.2.1
      have k3 := kw.g.cell OC.it.2.2.2.1
      have k4 := kw.g.cell OC.it.2.2.2.2
      obtain ⟨own4, K4⟩ : ∃ own4, Aside (Kw A w own4 (wr.alloc (.cells #[.int .i64 kd, .int .i64 ky, .int .i64 n, .bool nx, .slice sa B sc] 31)) ph pg T L L [(wr.heap.size, 31, [.int .i64 kd, .int .i64 ky, .int .i64 n, .bool nx, .slice sa B sc])] (.slice none 0 0) []) := ⟨_, ⟨kw.box 31 [.int .i64 kd, .int .i64 ky, .int .i64 n, .bool nx, .slice sa B sc]⟩⟩
      clear J kw hT hL hB hrd hby
      go_upto_region 7 with fail
      clear k0 k1 k2 k3 k4
      generalize wr.alloc (.cells #[.int .i64 kd, .int .i64 ky, .int .i64 n, .bool nx, .slice sa B sc] 31) = w4 at K4 ⊢
      generalize wr.heap.size = ob at K4 ⊢
      obtain ⟨ms, hms⟩ : ∃ ms, givB nx n ns (got L key).rest = ms := ⟨_, rfl⟩
      have HBM : Aside (AreBytes ms) := ⟨by
        rw [← hms]
        unfold givB
        split
        · exact fun y hy => (K4.it.h.ok.got key).byte y (List.mem_of_mem_drop (List.mem_of_mem_take hy))
        · exact HBY.it⟩
      have hRl : Aside ((got L key).rest.length ≤ 70368744177664) := ⟨by rw [Rc.rest_len]; have := (K4.it.h.ok.got key).len; have := hb4.it; omega⟩
      have hMl : Aside (ms.length ≤ 70368744177664) := ⟨by
        rw [← hms]
        unfold givB
        split
        · rw [List.length_take]; have := hRl.it; omega
        · rw [HB.it]; omega⟩
      have HMS := Aside.mk hms
      clear hms
      go_cut [9] (fun bvv wx => ∃ q6 n6 c6 own6, bvv = .slice q6 n6 c6 ∧ Aside (Kw A w own6 wx ph pg T L L [(ob, 31, [.int .i64 kd, .int .i64 ky, .int .i64 n, .bool nx, .slice sa B sc])] (.slice q6 n6 c6) ms))
      case first =>
        have K4d : Aside (Kw A w own4 w4.drew ph pg T L L _ _ _) := ⟨K4.it.quiet (Keeps.refl _ _).drew⟩
        clear K4
        go_region_held3 (fun W => W.cell? ⟨ob, 0, none⟩ = some (.int .i64 kd) ∧ W.cell? ⟨ob, 1, none⟩ = some (.int .i64 ky) ∧ W.cell? ⟨ob, 2, none⟩ = some (.int .i64 n) ∧ W.cell? ⟨ob, 3, none⟩ = some (.bool nx) ∧ W.cell? ⟨ob, 4, none⟩ = some (.slice sa B sc)) (with_reducible exact Kw.op5 (by with_reducible assumption)) (first
          | (go_at_call 16; refine BT.it.mono ?_; rintro e w6 ⟨q6, c6, rfl, R6, K6⟩; have KK := Aside.mk (K5.it.row K6.it R6.it); rw [HMS.it] at KK)
          | (go_at_call 22; refine (kw_restH K4d HK.it hb4.it).mono ?_; rintro e w5 ⟨q5, n5, c5, rfl, R5, _, _, K5⟩; have BT := Aside.mk (bytes_at (kd := kd) (key := ky) (n := n) (next := nx) (K5.it.grd HRD.it) R5.it (by rw [HB.it]; omega) hRl.it))
          | fail)
        all_goals go_wp2_with fail
        all_goals go_meet
        all_goals (rw [HMS.it]; exact ⟨q6, _, c6, _, rfl, KK⟩)
      case rest =>
        obtain ⟨q6, n6, c6, own6, rfl, K6⟩ := hcut
        clear K4 HMS hRl
        obtain ⟨d0, d1, d2, d3, d4⟩ := Kw.op5 K6
        go_upto_block 2 with fail
        go_cut [] (fun wx => ∃ L', Aside (Kd A w ph pg ((j + 1) * 2097152) (j + 1) L' wx))
        case first =>
          by_cases q0 : kd = 0
          · subst q0
            as_aux_lemma =>
              have H1 := Aside.mk (kw_wroteH (ns := ns) K6 HK.it HRD.it HBY.it (by rw [HB.it]; exact hb1.it) hb2.it)
              rw [HB.it] at H1
              cases hcl : (got L key).cl with
              | true =>
                have hcc : wroteC L key = 24 := by unfold wroteC; rw [hcl]; rfl
                have hwl : wroteL L key ns = L := by unfold wroteL; rw [hcl]; rfl
                rw [hcc, hwl] at H1
                clear hcl hcc hwl
                go_wp2_with (first | (go_at_call 17; refine H1.it.mono ?_; rintro e w7 ⟨ev7, own7, rfl, D7, K7⟩; obtain ⟨a7, e7⟩ := Coded.pos D7.out (by decide); subst e7) | fail)
                go_meet
                exact ⟨L, ⟨own7, T + B, hb5.it.2.1, Nat.le_trans (Nat.le_add_right _ 1) hb6.it.1, K7.it.drop⟩⟩
              | false =>
                have hcc : wroteC L key = 0 := by unfold wroteC; rw [hcl]; rfl
                rw [hcc] at H1
                have HCL := Aside.mk hcl
                clear hcl hcc
                go_upto_region 13 with (first | (go_at_call 17; refine H1.it.mono ?_; rintro e w7 ⟨ev7, own7, rfl, D7, K7⟩; have e7 : ev7 = .nilIface := Coded.zero D7.out; subst e7) | fail)
                obtain ⟨e0, e1, e2, e3, e4⟩ := Kw.op5 K7
                go_upto_block 3 with fail
                go_cut [] (fun wx => Aside (∃ Lg own8, Half L Lg key ns ∧ Lg.length ≤ L.length + 1 ∧ Kw A w own8 wx ph pg (T + B + B) (wroteL L key ns) Lg [(ob, 31, [.int .i64 0, .int .i64 ky, .int .i64 n, .bool nx, .slice sa B sc])] (.slice q6 n6 c6) ms))
                case first =>
                  go_wp2_with fail
                  clear e0 e1 e2 e3 e4
                  go_loopw [53] (fun iv wr => ∃ (i : Nat) (Lg : Hs), iv = .int .i64 i ∧ i ≤ B ∧ Aside (Half L Lg key (ns.take i) ∧ Lg.length ≤ L.length + 1) ∧ Aside (∃ own8, Kw A w own8 wr ph pg (T + B + i) (wroteL L key ns) Lg [(ob, 31, [.int .i64 0, .int .i64 ky, .int .i64 n, .bool nx, .slice sa B sc])] (.slice q6 n6 c6) ms)) (fun iv _ => B - natOfT iv)
                  case atStart => exact ⟨0, L, rfl, Nat.zero_le _, ⟨Half.start HCL.it, Nat.le_add_right _ _⟩, ⟨own7, K7.it⟩⟩
                  case round =>
                    obtain ⟨i, Lg, rfl, hi, HH, Y⟩ := hrel
                    obtain ⟨own8, K8⟩ := Y.it
                    have K8 := Aside.mk K8
                    rcases Nat.eq_or_lt_of_le hi with rfl | hil
                    · go_wp2_with fail
                      go_meet
                      have h1 := HH.it.1
                      rw [List.take_of_length_le (by rw [HB.it]; exact Nat.le_refl _)] at h1
                      exact ⟨Lg, own8, h1, HH.it.2, K8.it⟩
                    · obtain ⟨x, hx⟩ : ∃ x, ns[i]? = some x := ⟨_, List.getElem?_eq_getElem (by rw [HB.it]; exact hil)⟩
                      have hsi : ¬ sc = i := by omega
                      have s1 : (i : Int) + 1 ≤ (sc : Int) := by omega
                      have s2 : (i : Int) ≤ 9223372036854775806 := by omega
                      have s3 : (i : Int) < (B : Int) := by omega
                      have GW := Aside.mk (kw_wroteG (ns := [x]) K8 HK.it ((K8.it.grd HRD.it).seg1 hx) (fun y hy => by simp at hy; subst hy; exact HBY.it y (List.mem_of_getElem? hx)) (by have := hb3.it; simp; omega) (by have := HH.it.2; have := hb2.it; have := hb6.it; omega))
                      rw [HH.it.1.code] at GW
                      have NX := Aside.mk (HH.it.1.next x)
                      rw [← take_snoc hx] at NX
                      clear hx
                      obtain ⟨e0, e1, e2, e3, e4⟩ := Kw.op5 K8
                      go_wp2_with (first | (go_at_call 17; refine GW.it.mono ?_; rintro e w9 ⟨ev9, own9, rfl, D9, K9⟩; have e9 : ev9 = .nilIface := Coded.zero D9.out; subst e9) | fail)
                      go_roundw
                      case rel => exact ⟨i + 1, _, by go_num, by omega, ⟨NX.it, by rw [HH.it.1.2]; exact len_wrote K6.it.h.ok key _⟩, ⟨own9, K9.it⟩⟩
                      case measure => simp [natOfT]; omega
                case rest =>
                  obtain ⟨Lg, own8, hH, hLg, K8⟩ := hcut.it
                  have K8 := Aside.mk K8
                  have HH := Aside.mk (And.intro hH hLg)
                  clear hcut e0 e1 e2 e3 e4
                  have GW := Aside.mk (kw_wroteG (ns := []) (sl := .slice none 0 0) K8 HK.it (RowB.nil own8 0 _).rd (fun y hy => by cases hy) (by have := hb3.it; simp; omega) (by have := HH.it.2; have := hb6.it; omega))
                  rw [hH.code, hH.2, List.append_nil] at GW
                  clear hH hLg
                  go_wp2_with (first | (go_at_call 17; refine GW.it.mono ?_; rintro e w9 ⟨ev9, own9, rfl, D9, K9⟩; have e9 : ev9 = .nilIface := Coded.zero D9.out; subst e9) | fail)
                  go_meet
                  exact ⟨wroteL L key ns, ⟨own9, T + B + B, hb5.it.2.2, Nat.le_trans (len_wrote K6.it.h.ok key ns) hb6.it.1, K9.it.drop⟩⟩
          · by_cases q1 : kd = 1
            · subst q1
              clear q0
              as_aux_lemma =>
                have H1 := Aside.mk (kw_closedH (⟨K6.it.quiet (Keeps.refl _ _).drew⟩ : Aside (Kw A w own6 wc.drew ph pg T L L _ _ _)) HK.it hb2.it)
                obtain ⟨cc, hcc⟩ : ∃ cc, wroteC L key = cc := ⟨_, rfl⟩
                rw [hcc] at H1
                by_cases c0 : cc = 0
                · subst c0
                  go_upto_region 22 with fail
                  go_cut [81] (fun t wx => t = .bool false ∧ Aside (∃ own8, Kw A w own8 wx ph pg T (closedL L key) (closedL L key) [(ob, 31, [.int .i64 1, .int .i64 ky, .int .i64 n, .bool nx, .slice sa B sc])] (.slice q6 n6 c6) ms))
                  case first =>
                    go_region_held3 (fun _ => True) (exact trivial) (first
                      | (go_at_call 18; refine H2.it.mono ?_; rintro e w8 ⟨ev8, own8, rfl, D8, K8⟩; have e8 : ev8 = .nilIface := Coded.zero D8.out; subst e8)
                      | (go_at_call 18; refine H1.it.mono ?_; rintro e w7 ⟨ev7, own7, rfl, D7, K7⟩; have e7 : ev7 = .nilIface := Coded.zero D7.out; subst e7; have H2 := Aside.mk (kw_closedG K7 HK.it hb2.it); rw [hcc] at H2)
                      | fail)
                    go_wp2_with fail
                    go_meet
                    exact ⟨rfl, ⟨own8, K8.it⟩⟩
                  case rest =>
                    obtain ⟨rfl, Y⟩ := hcut
                    obtain ⟨own8, K8⟩ := Y.it
                    go_wp2_with fail
                    go_meet
                    exact ⟨_, ⟨own8, T, hb5.it.1, Nat.le_trans (len_closed K6.it.h.ok key) hb6.it.1, K8.drop⟩⟩
                · go_upto_region 22 with fail
                  go_cut [81] (fun t wx => t = .bool false ∧ Aside (∃ own8, Kw A w own8 wx ph pg T (closedL L key) (closedL L key) [(ob, 31, [.int .i64 1, .int .i64 ky, .int .i64 n, .bool nx, .slice sa B sc])] (.slice q6 n6 c6) ms))
                  case first =>
                    go_region_held3 (fun _ => True) (exact trivial) (first
                      | (go_at_call 18; refine H2.it.mono ?_; rintro e w8 ⟨ev8, own8, rfl, D8, K8⟩; obtain ⟨a8, e8⟩ := Coded.pos D8.out c0; subst e8)
                      | (go_at_call 18; refine H1.it.mono ?_; rintro e w7 ⟨ev7, own7, rfl, D7, K7⟩; obtain ⟨a7, e7⟩ := Coded.pos D7.out c0; subst e7; have H2 := Aside.mk (kw_closedG K7 HK.it hb2.it); rw [hcc] at H2)
                      | fail)
                    go_wp2_with fail
                    go_meet
                    exact ⟨rfl, ⟨own8, K8.it⟩⟩
                  case rest =>
                    obtain ⟨rfl, Y⟩ := hcut
                    obtain ⟨own8, K8⟩ := Y.it
                    go_wp2_with fail
                    go_meet
                    exact ⟨_, ⟨own8, T, hb5.it.1, Nat.le_trans (len_closed K6.it.h.ok key) hb6.it.1, K8.drop⟩⟩
            · by_cases q2 : kd = 2
              · subst q2
                clear q0 q1
                as_aux_lemma =>
                  have H1 := Aside.mk (kw_gaveH K6 HK.it HBM.it hb4.it hb2.it)
                  have hML : Aside (ms.length = n6 ∧ n6 ≤ c6) := ⟨K6.it.b.1.len⟩
                  have hn6 : (n6 : Int) ≤ 70368744177664 := by have := hMl.it; have := hML.it.1; omega
                  cases hgb : gaveB L key ms with
                  | false =>
                    have hcc : gaveC L key ms = 39 := by unfold gaveC; rw [hgb]; rfl
                    have hwl : gaveL L key ms = L := by unfold gaveL; rw [hgb]; rfl
                    rw [hcc, hwl] at H1
                    clear hgb hcc hwl
                    go_wp2_with (first | (go_at_call 19; refine H1.it.mono ?_; rintro e w7 ⟨ev7, own7, rfl, D7, K7⟩; obtain ⟨a7, e7⟩ := Coded.pos D7.out (by decide); subst e7) | fail)
                    go_meet
                    exact ⟨L, ⟨own7, T, hb5.it.1, Nat.le_trans (Nat.le_add_right _ 1) hb6.it.1, K7.it.drop⟩⟩
                  | true =>
                    have hcc : gaveC L key ms = 0 := by unfold gaveC; rw [hgb]; rfl
                    rw [hcc] at H1
                    have HGB := Aside.mk hgb
                    clear hgb hcc
                    go_upto_region 26 with (first | (go_at_call 19; refine H1.it.mono ?_; rintro e w7 ⟨ev7, own7, rfl, D7, K7⟩; have e7 : ev7 = .nilIface := Coded.zero D7.out; subst e7) | fail)
                    go_upto_block 5 with fail
                    go_cut [] (fun wx => Aside (∃ Lg own8, HalfG L Lg key ms ∧ Lg.length ≤ L.length + 1 ∧ Kw A w own8 wx ph pg T (gaveL L key ms) Lg [(ob, 31, [.int .i64 2, .int .i64 ky, .int .i64 n, .bool nx, .slice sa B sc])] (.slice q6 n6 c6) ms))
                    case first =>
                      go_wp2_with fail
                      go_loopw [91] (fun iv wr => ∃ (i : Nat) (Lg : Hs), iv = .int .i64 i ∧ i ≤ n6 ∧ Aside (HalfG L Lg key (ms.take i) ∧ Lg.length ≤ L.length + 1) ∧ Aside (∃ own8, Kw A w own8 wr ph pg T (gaveL L key ms) Lg [(ob, 31, [.int .i64 2, .int .i64 ky, .int .i64 n, .bool nx, .slice sa B sc])] (.slice q6 n6 c6) ms)) (fun iv _ => n6 - natOfT iv)
                      case atStart => exact ⟨0, L, rfl, Nat.zero_le _, ⟨HalfG.start, Nat.le_add_right _ _⟩, ⟨own7, K7.it⟩⟩
                      case round =>
                        obtain ⟨i, Lg, rfl, hi, HH, Y⟩ := hrel
                        obtain ⟨own8, K8⟩ := Y.it
                        have K8 := Aside.mk K8
                        rcases Nat.eq_or_lt_of_le hi with rfl | hil
                        · go_wp2_with fail
                          go_meet
                          have h1 := HH.it.1
                          rw [List.take_of_length_le (by rw [hML.it.1]; exact Nat.le_refl _)] at h1
                          exact ⟨Lg, own8, h1, HH.it.2, K8.it⟩
                        · obtain ⟨x, hx⟩ : ∃ x, ms[i]? = some x := ⟨_, List.getElem?_eq_getElem (by rw [hML.it.1]; exact hil)⟩
                          have hc6 := hML.it.2
                          have hsi : ¬ c6 = i := by omega
                          have s1 : (i : Int) + 1 ≤ (c6 : Int) := by omega
                          have s2 : (i : Int) ≤ 9223372036854775806 := by omega
                          have s3 : (i : Int) < (n6 : Int) := by omega
                          have GB : Aside (gaveB L key (ms.take i ++ [x]) = true) := ⟨gaveB_pre (c := ms.drop (i + 1)) (by rw [← take_snoc hx, List.take_append_drop]; exact HGB.it)⟩
                          have GW := Aside.mk (kw_gaveG (ns := [x]) K8 HK.it (K8.it.b.1.seg1 hx) (fun y hy => by simp at hy; subst hy; exact HBM.it y (List.mem_of_getElem? hx)) hb4.it (by have := HH.it.2; have := hb6.it; omega))
                          rw [HH.it.1.code GB.it] at GW
                          have NX := Aside.mk (HH.it.1.next x)
                          rw [← take_snoc hx] at NX
                          clear hx hc6
                          go_wp2_with (first | (go_at_call 19; refine GW.it.mono ?_; rintro e w9 ⟨ev9, own9, rfl, D9, K9⟩; have e9 : ev9 = .nilIface := Coded.zero D9.out; subst e9) | fail)
                          go_roundw
                          case rel => exact ⟨i + 1, _, by go_num, by omega, ⟨NX.it, by rw [(HH.it.1 _ GB.it).2]; exact len_gave K6.it.h.ok key _⟩, ⟨own9, K9.it⟩⟩
                          case measure => simp [natOfT]; omega
                    case rest =>
                      obtain ⟨Lg, own8, hH, hLg, K8⟩ := hcut.it
                      have K8 := Aside.mk K8
                      have HH := Aside.mk (And.intro hH hLg)
                      clear hcut
                      have GB : gaveB L key (ms ++ []) = true := by rw [List.append_nil]; exact HGB.it
                      have GW := Aside.mk (kw_gaveG (ns := []) (sl := .slice none 0 0) K8 HK.it (RowB.nil own8 0 _).rd (fun y hy => by cases hy) hb4.it (by have := HH.it.2; have := hb6.it; omega))
                      rw [hH.code GB, (hH _ GB).2, List.append_nil] at GW
                      clear hH hLg GB
                      go_wp2_with (first | (go_at_call 19; refine GW.it.mono ?_; rintro e w9 ⟨ev9, own9, rfl, D9, K9⟩; have e9 : ev9 = .nilIface := Coded.zero D9.out; subst e9) | fail)
                      go_meet
                      exact ⟨gaveL L key ms, ⟨own9, T, hb5.it.1, Nat.le_trans (len_gave K6.it.h.ok key ms) hb6.it.1, K9.it.drop⟩⟩
              · have f0 : (kd == 0) = false := by simp [q0]
                have f1 : (kd == 1) = false := by simp [q1]
                have f2 : (kd == 2) = false := by simp [q2]
                clear q0 q1 q2
                as_aux_lemma =>
                  have H1 := Aside.mk (kw_endedH (⟨K6.it.quiet (Keeps.refl _ _).drew⟩ : Aside (Kw A w own6 wc.drew ph pg T L L _ _ _)) HK.it hb2.it)
                  obtain ⟨cc, hcc⟩ : ∃ cc, endedC L key = cc := ⟨_, rfl⟩
                  rw [hcc] at H1
                  by_cases c0 : cc = 0
                  · subst c0
                    go_upto_region 9 with fail
                    go_cut [41] (fun t wx => t = .bool false ∧ Aside (∃ own8, Kw A w own8 wx ph pg T (endedL L key) (endedL L key) [(ob, 31, [.int .i64 kd, .int .i64 ky, .int .i64 n, .bool nx, .slice sa B sc])] (.slice q6 n6 c6) ms))
                    case first =>
                      go_region_held3 (fun _ => True) (exact trivial) (first
                        | (go_at_call 20; refine H2.it.mono ?_; rintro e w8 ⟨ev8, own8, rfl, D8, K8⟩; have e8 : ev8 = .nilIface := Coded.zero D8.out; subst e8)
                        | (go_at_call 20; refine H1.it.mono ?_; rintro e w7 ⟨ev7, own7, rfl, D7, K7⟩; have e7 : ev7 = .nilIface := Coded.zero D7.out; subst e7; have H2 := Aside.mk (kw_endedG K7 HK.it hb2.it); rw [hcc] at H2)
                        | fail)
                      go_wp2_with fail
                      go_meet
                      exact ⟨rfl, ⟨own8, K8.it⟩⟩
                    case rest =>
                      obtain ⟨rfl, Y⟩ := hcut
                      obtain ⟨own8, K8⟩ := Y.it
                      go_wp2_with fail
                      go_meet
                      exact ⟨_, ⟨own8, T, hb5.it.1, Nat.le_trans (len_ended K6.it.h.ok key) hb6.it.1, K8.drop⟩⟩
                  · go_upto_region 9 with fail
                    go_cut [41] (fun t wx => t = .bool false ∧ Aside (∃ own8, Kw A w own8 wx ph pg T (endedL L key) (endedL L key) [(ob, 31, [.int .i64 kd, .int .i64 ky, .int .i64 n, .bool nx, .slice sa B sc])] (.slice q6 n6 c6) ms))
                    case first =>
                      go_region_held3 (fun _ => True) (exact trivial) (first
                        | (go_at_call 20; refine H2.it.mono ?_; rintro e w8 ⟨ev8, own8, rfl, D8, K8⟩; obtain ⟨a8, e8⟩ := Coded.pos D8.out c0; subst e8)
                        | (go_at_call 20; refine H1.it.mono ?_; rintro e w7 ⟨ev7, own7, rfl, D7, K7⟩; obtain ⟨a7, e7⟩ := Coded.pos D7.out c0; subst e7; have H2 := Aside.mk (kw_endedG K7 HK.it hb2.it); rw [hcc] at H2)
                        | fail)
                      go_wp2_with fail
                      go_meet
                      exact ⟨rfl, ⟨own8, K8.it⟩⟩
                    case rest =>
                      obtain ⟨rfl, Y⟩ := hcut
                      obtain ⟨own8, K8⟩ := Y.it
                      go_wp2_with fail
                      go_meet
                      exact ⟨_, ⟨own8, T, hb5.it.1, Nat.le_trans (len_ended K6.it.h.ok key) hb6.it.1, K8.drop⟩⟩
        case rest =>
          obtain ⟨L7, J7⟩ := hcut
          obtain ⟨own7, T7, hT7, hL7, kw7⟩ := J7.it
          have hT8 : Aside (T7 ≤ 70368744177664) := ⟨by omega⟩
          have hL8 : Aside (L7.length ≤ 1073741824) := ⟨by have := hb6.it.2; omega⟩
          have HT7 := Aside.mk (And.intro hT7 hL7)
          have K7 := Aside.mk kw7
          clear K6 J7 d0 d1 d2 d3 d4 hT7 hL7 kw7
          obtain ⟨kn, hkn⟩ : ∃ kn, (tget L7 key).isSome = kn := ⟨_, rfl⟩
          obtain ⟨rr, hrr⟩ : ∃ rr, got L7 key = rr := ⟨_, rfl⟩
          have PH := Aside.mk (past_at K7.it.h HK.it)
          rw [hkn, hrr] at PH
          obtain ⟨wl, hwl⟩ : ∃ wl, rr.wr.length = wl := ⟨_, rfl⟩
          simp only [pastV, hwl] at PH
          have HKN := Aside.mk hkn
          have HRR := Aside.mk (And.intro hrr hwl)
          clear hkn hrr hwl
          go_upto_region 35 with (first | (go_at_call 21; refine PH.it.mono ?_; rintro e w8 ⟨rfl, K8⟩) | fail)
          obtain ⟨own9, K9⟩ : ∃ own9, Aside (Kw A w own9 (w8.alloc (.cells #[.int .i64 wl, .int .i64 rr.rd, .bool rr.cl, .bool rr.en] 47)) ph pg T7 L7 L7 [(w8.heap.size, 47, pastC wl rr.rd rr.cl rr.en)] (.slice none 0 0) []) := ⟨_, ⟨(K7.it.quiet K8.it).box 47 (pastC wl rr.rd rr.cl rr.en)⟩⟩
          generalize w8.alloc (.cells #[.int .i64 wl, .int .i64 rr.rd, .bool rr.cl, .bool rr.en] 47) = w9 at K9 ⊢
          generalize w8.heap.size = pb at K9 ⊢
          have PG := Aside.mk (past_at K9.it.k HK.it)
          rw [HKN.it, HRR.it.1] at PG
          simp only [pastV, HRR.it.2] at PG
          clear PH K8 K7
          go_upto_region 36 with (first | (go_at_call 21; refine PG.it.mono ?_; rintro e w10 ⟨rfl, K10⟩) | fail)
          obtain ⟨own11, K11⟩ : ∃ own11, Aside (Kw A w own11 (w10.alloc (.cells #[.int .i64 wl, .int .i64 rr.rd, .bool rr.cl, .bool rr.en] 47)) ph pg T7 L7 L7 [(w10.heap.size, 47, pastC wl rr.rd rr.cl rr.en), (pb, 47, pastC wl rr.rd rr.cl rr.en)] (.slice none 0 0) []) := ⟨_, ⟨(K9.it.quiet K10.it).box 47 (pastC wl rr.rd rr.cl rr.en)⟩⟩
          generalize w10.alloc (.cells #[.int .i64 wl, .int .i64 rr.rd, .bool rr.cl, .bool rr.en] 47) = w11 at K11 ⊢
          generalize w10.heap.size = qb at K11 ⊢
          clear PG K10 K9
          have pn := past_neql wl rr.rd rr.cl rr.en
          have K12 : Aside (Kw A w own11 w11.drew ph pg T7 L7 L7 _ _ _) := ⟨K11.it.quiet (Keeps.refl _ _).drew⟩
          obtain ⟨ss, hss⟩ : ∃ ss, strOf rr.rest = ss := ⟨_, rfl⟩
          obtain ⟨st, hst⟩ : ∃ st, str (textT L7) = st := ⟨_, rfl⟩
          have HSS := Aside.mk (And.intro hss hst)
          clear hss K11 hst
          go_cut [145] (fun t wx => t = .bool false ∧ Aside (Kd A w ph pg ((j + 1) * 2097152) (j + 1) L7 wx))
          case first =>
            go_region_held_law (fun W => W.cell? ⟨pb, 0, none⟩ = some (.int .i64 wl) ∧ W.cell? ⟨pb, 1, none⟩ = some (.int .i64 rr.rd) ∧ W.cell? ⟨pb, 2, none⟩ = some (.bool rr.cl) ∧ W.cell? ⟨pb, 3, none⟩ = some (.bool rr.en) ∧ W.cell? ⟨qb, 0, none⟩ = some (.int .i64 wl) ∧ W.cell? ⟨qb, 1, none⟩ = some (.int .i64 rr.rd) ∧ W.cell? ⟨qb, 2, none⟩ = some (.bool rr.cl) ∧ W.cell? ⟨qb, 3, none⟩ = some (.bool rr.en)) (with_reducible exact Kw.two (by with_reducible assumption)) (first
              | (go_at_call 22; refine (kw_restG K13 HK.it hT8.it).mono ?_; rintro e w14 ⟨q14, n14, c14, rfl, R14, CV14, KK14, K14⟩; rw [HRR.it.1, HSS.it.1] at CV14; have CVx := rd_conv (R13.it.later KK14.it.bel); rw [HRR.it.1, HSS.it.1] at CVx)
              | (go_at_call 22; refine (kw_restH K12 HK.it hT8.it).mono ?_; rintro e w13 ⟨q13, n13, c13, rfl, R13, CV13, KK13, K13⟩; rw [HRR.it.1, HSS.it.1] at CV13)
              | (go_at_call 14; refine (kw_textG K15 hT8.it hL8.it).mono ?_; rintro e w16 ⟨rfl, KK16, K16⟩; rw [HSS.it.2])
              | (go_at_call 14; refine (kw_textH K14 hT8.it hL8.it).mono ?_; rintro e w15 ⟨rfl, KK15, K15⟩; rw [HSS.it.2])
              | fail)
            all_goals go_wp2_with fail
            all_goals go_meet
            all_goals exact ⟨rfl, ⟨own11, T7, HT7.it.1, HT7.it.2, K16.it.drop⟩⟩
          case rest =>
            obtain ⟨rfl, J9⟩ := hcut
            go_wp2_with fail
            go_roundw
            case rel => exact ⟨j + 1, L7, by go_num, by omega, J9⟩
            case measure => simp [natOfT]; omega
end Go.Proofs.YteojdangidnnkaaDoor
