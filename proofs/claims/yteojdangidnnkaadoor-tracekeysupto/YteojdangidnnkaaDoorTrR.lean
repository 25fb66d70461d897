/-
  culvertlaw24.TraceKeys
-/
import Derived.Test.YteojdangidnnkaaDoorTrQ2
import Derived.Deep.CutBlock
namespace Go.Proofs.YteojdangidnnkaaDoor
open Go.RowKit Go.Maps

variable {A : Nat → Addr} {w w' w0 W : World} {own own' : Nat → Nat} {r : Rc} {L Lg : Hs} {ph pg T ob : Nat} {kd ky n : Int} {nx : Bool} {sl bv' : Value} {ms : List Int}
/-- behind a round -/
def Kn (A : Nat → Addr) (w0 : World) (ph pg : Nat) (key : Int) (m n : Nat) (L : Hs) (W : World) : Prop := ∃ own T, T ≤ m ∧ L.length ≤ n ∧ Kw A w0 own W ph pg T L (one key (tget L key)) [] (.slice none 0 0) []
set_option maxRecDepth 20000 in
set_option maxHeartbeats 8000000 in
theorem traceKeys_walkU {A : Nat → Addr} (s : Value) (zs : List OpV24) (key : Int) (w : World) (hs : LdT A w) (hz : Ops24ArgU w s zs) (hkey : (Lit.int .i64 key).wf = true) :
    Calls Tryd.prog 6 #[s, .int .i64 key] w fun e w' => e = .returned (.bool true) ∧ Below w.heap.size w w' := by
  obtain ⟨hz20, hz⟩ := hz
  have HZ := Aside.mk hz
  obtain ⟨a, c, rfl, hzc, hcm, _⟩ := hz
  obtain ⟨N, hN⟩ : ∃ N, zs.length = N := ⟨_, rfl⟩
  have HN := Aside.mk hN
  rw [hN] at hzc hz20 ⊢
  have FX := Aside.mk (fixed24 hs)
  have HS := Aside.mk hs
  have HK := Aside.mk (of_wf_i64 hkey)
  have hNm : (N : Int) ≤ 1048576 := by omega
  clear hs hN hkey
  go_enter Tryd.func6, Tryd.ntmps6
  go_upto_region 3 with (go_at_call 8; refine FX.it.mono ?_; rintro e w1 ⟨rfl, K1⟩)
  clear FX
  have NW := Aside.mk (newT w1 (fun _ => 0) 1)
  go_upto_region 4 with (first
    | (go_at_call 9; refine NV.it.mono ?_; clear NV; rintro e w3 ⟨pg, own3, rfl, X3⟩)
    | (go_at_call 9; refine NW.it.mono ?_; clear NW; rintro e w2 ⟨ph, own2, rfl, X2⟩; have NV := Aside.mk (newT w2 own2 2))
    | fail)
  have J2 : Aside (Kn A w ph pg key 0 0 [] w3) := ⟨own3, 0, Nat.le_refl _, Nat.le_refl _, ⟨(((OnG.start HS.it.s).sn (I := fun _ => False) (Sn.same K1.it) (fun x => x)).sn X2.it.2.2 (fun x => x)).sn X3.it.2.2 (fun x => x), HS.it.p, X2.it.1.sn X3.it.2.2 (fun x => x), X3.it.1, (fun e he => by cases he), ⟨(RowB.nil own3 0 _).rd, fun g hg => by simp [Value.ownBlock] at hg⟩⟩⟩
  go_upto_block 0 with fail
  go_cut [27] (fun jv wx => ∃ L, Aside (Kn A w ph pg key (N * 2097152) N L wx))
  case first =>
   go_wp2_with fail
   go_loopw [27] (fun jv wr => ∃ (j : Nat) (L : Hs), jv = .int .i64 j ∧ j ≤ N ∧ Aside (Kn A w ph pg key (j * 2097152) j L wr)) (fun jv _ => N - natOfT jv)
   case atStart => exact ⟨0, [], rfl, Nat.zero_le _, by simpa using J2⟩
   case round =>
    clear J2 X2 X3
    obtain ⟨j, L, rfl, hj, J⟩ := hrel
    rcases Nat.eq_or_lt_of_le hj with rfl | hlt
    · go_wp2_with fail
      go_meet
      exact ⟨L, J⟩
    · obtain ⟨z, hz⟩ : ∃ z, zs[j]? = some z := ⟨_, List.getElem?_eq_getElem (by rw [HN.it]; exact hlt)⟩
      have hzw := HZ.it
      rw [HN.it] at hzw
      obtain ⟨b, o, rfl, OC, hrd, hby, hnb, hzk, hzn⟩ := op24_cells (by rw [HN.it]; exact hzw) hz
      clear hz hzw
      obtain ⟨kd, ky, n, nx, sl, ns⟩ := z
      simp only at OC hrd hnb hby hzn hzk
      obtain ⟨own, T, hT, hL, kw⟩ := J.it
      obtain ⟨sa, sc, hsl⟩ := hrd.shape
      subst hsl
      obtain ⟨B, hB⟩ : ∃ B, ns.length = B := ⟨_, rfl⟩
      have HB := Aside.mk hB
      have HRD := Aside.mk hrd
      have HBY := Aside.mk hby
      rw [hB] at OC HRD hnb
      have hb1 : Aside (T + ns.length ≤ 70368744177664) := ⟨by rw [HB.it]; omega⟩
      have hb2 : Aside (L.length + 1 ≤ 2147483648) := ⟨by omega⟩
      have hb3 : Aside (T + ns.length + ns.length ≤ 70368744177664) := ⟨by rw [HB.it]; omega⟩
      have hb4 : Aside (T ≤ 70368744177664) := ⟨by omega⟩
      have hb5 : Aside (T ≤ (j + 1) * 2097152 ∧ T + ns.length ≤ (j + 1) * 2097152 ∧ T + ns.length + ns.length ≤ (j + 1) * 2097152) := ⟨by rw [HB.it]; omega⟩
      have hb6 : Aside (L.length + 1 ≤ j + 1) := ⟨by omega⟩
      have i1 : (j : Int) ≤ 9223372036854775806 := by omega
      have k0 := kw.g.cell OC.it.1
      have k1 := kw.g.cell OC.it.2.1
      have k2 := kw.g.cell OC.it.2.2.1
      have k3 := kw.g.cell OC.it.2.2.2.1
      have k4 := kw.g.cell OC.it.2.2.2.2
      obtain ⟨own4, K4⟩ : ∃ own4, Aside (Kw A w own4 (wr.alloc (.cells #[.int .i64 kd, .int .i64 ky, .int .i64 n, .bool nx, .slice sa B sc] 31)) ph pg T L (one key (tget L key)) [(wr.heap.size, 31, [.int .i64 kd, .int .i64 ky, .int .i64 n, .bool nx, .slice sa B sc])] (.slice none 0 0) []) := ⟨_, ⟨kw.box 31 [.int .i64 kd, .int .i64 ky, .int .i64 n, .bool nx, .slice sa B sc]⟩⟩
      clear J kw hT hL hB hrd hby
      go_upto_region 7 with fail
      clear k0 k1 k2 k3 k4
      generalize wr.alloc (.cells #[.int .i64 kd, .int .i64 ky, .int .i64 n, .bool nx, .slice sa B sc] 31) = w4 at K4 ⊢
      generalize wr.heap.size = ob at K4 ⊢
      obtain ⟨ms, hms⟩ : ∃ ms, givB nx n ns (got L ky).rest = ms := ⟨_, rfl⟩
      have HBM : Aside (AreBytes ms) := ⟨by
        rw [← hms]
        unfold givB
        split
        · exact fun y hy => (K4.it.h.ok.got ky).byte y (List.mem_of_mem_drop (List.mem_of_mem_take hy))
        · exact HBY.it⟩
      have hRl : Aside ((got L ky).rest.length ≤ 70368744177664) := ⟨by rw [Rc.rest_len]; have := (K4.it.h.ok.got ky).len; have := hb4.it; omega⟩
      have HMS := Aside.mk hms
      clear hms
      go_cut [9] (fun bvv wx => ∃ q6 n6 c6 own6, bvv = .slice q6 n6 c6 ∧ Aside (Kw A w own6 wx ph pg T L (one key (tget L key)) [(ob, 31, [.int .i64 kd, .int .i64 ky, .int .i64 n, .bool nx, .slice sa B sc])] (.slice q6 n6 c6) ms))
      case first =>
        have K4d : Aside (Kw A w own4 w4.drew ph pg T L (one key (tget L key)) _ _ _) := ⟨K4.it.quiet (Keeps.refl _ _).drew⟩
        clear K4
        go_region_held3 (fun W => W.cell? ⟨ob, 0, none⟩ = some (.int .i64 kd) ∧ W.cell? ⟨ob, 1, none⟩ = some (.int .i64 ky) ∧ W.cell? ⟨ob, 2, none⟩ = some (.int .i64 n) ∧ W.cell? ⟨ob, 3, none⟩ = some (.bool nx) ∧ W.cell? ⟨ob, 4, none⟩ = some (.slice sa B sc)) (with_reducible exact Kw.op5 (by with_reducible assumption)) (first
          | (go_at_call 16; refine BT.it.mono ?_; rintro e w6 ⟨q6, c6, rfl, R6, K6⟩; have KK := Aside.mk (K5.it.row K6.it R6.it); rw [HMS.it] at KK)
          | (go_at_call 22; refine (kw_restH K4d hzk hb4.it).mono ?_; rintro e w5 ⟨q5, n5, c5, rfl, R5, _, _, K5⟩; have BT := Aside.mk (bytes_at (kd := kd) (key := ky) (n := n) (next := nx) (K5.it.grd HRD.it) R5.it (by rw [HB.it]; omega) hRl.it))
          | fail)
        all_goals go_wp2_with fail
        all_goals go_meet
        all_goals (rw [HMS.it]; exact ⟨q6, _, c6, _, rfl, KK⟩)
      case rest =>
        obtain ⟨q6, n6, c6, own6, rfl, K6⟩ := hcut
        clear K4 HMS hRl
        obtain ⟨d0, d1, d2, d3, d4⟩ := Kw.op5 K6
        go_upto_block 2 with fail
        go_cut [10] (fun sv wx => sv = .bool true ∧ ∃ L', Aside (Kn A w ph pg key ((j + 1) * 2097152) (j + 1) L' wx))
        case first =>
          by_cases q0 : kd = 0
          · subst q0
            as_aux_lemma =>
              have H1 := Aside.mk (kw_wroteH (ns := ns) K6 hzk HRD.it HBY.it hb1.it hb2.it)
              obtain ⟨cc, hcc⟩ : ∃ cc, wroteC L ky = cc := ⟨_, rfl⟩
              rw [hcc] at H1
              have HCC := Aside.mk hcc
              clear hcc
              by_cases hkk : ky = key
              · subst hkk
                have fin : Aside (∀ own7 w7, Kw A w own7 w7 ph pg (T + ns.length + ns.length) (wroteL L ky ns) (wroteL (one ky (tget L ky)) ky ns) [(ob, 31, [.int .i64 0, .int .i64 ky, .int .i64 n, .bool nx, .slice sa B sc])] (.slice q6 n6 c6) ms → Kn A w ph pg ky ((j + 1) * 2097152) (j + 1) (wroteL L ky ns) w7) := ⟨fun own7 w7 h => ⟨own7, (T + ns.length + ns.length), by have := hb5.it; omega, Nat.le_trans (len_wrote K6.it.h.ok ky ns) hb6.it, by have := h.drop; rw [opL_wrote (one ky (tget L ky)), ← opL_one, ← opL_wrote] at this; exact this⟩⟩
                by_cases c0 : cc = 0
                · subst c0
                  go_upto_region 14 with (first | (go_at_call 17; refine H1.it.mono ?_; rintro e w7 ⟨ev7, own7, rfl, D7, K7⟩; have e7 : ev7 = .nilIface := Coded.zero D7.out; subst e7) | fail)
                  have H2 := Aside.mk (fun W (kp : Keeps Nowhere w7 W) => (show Aside (Kw A w own7 W ph pg (T + ns.length) (wroteL L ky ns) (one ky (tget L ky)) _ _ ms) from ⟨K7.it.quiet kp⟩))
                  have K7o := K7
                  replace K7 : Aside (Kw A w own7 w7.drew ph pg (T + ns.length) (wroteL L ky ns) (one ky (tget L ky)) _ _ ms) := H2.it _ (Keeps.refl _ _).drew
                  have G2 := Aside.mk (kw_wroteG (ns := ns) K7 hzk (K7.it.grd HRD.it) HBY.it hb3.it (by have := len_one ky (tget L ky); omega))
                  rw [codeW_one, HCC.it] at G2
                  clear H2
                  go_region_held3 (fun w' => w'.cell? ⟨ob, 1, none⟩ = some (.int .i64 ky) ∧ w'.cell? ⟨ob, 4, none⟩ = some (.slice sa B sc)) (with_reducible exact Kw.op (by with_reducible assumption)) (first
                    | (go_at_call 17; refine G2.it.mono ?_; rintro e w8 ⟨ev8, own8, rfl, D8, K8⟩; have e8 : ev8 = .nilIface := Coded.zero D8.out; subst e8)
                    | fail)
                  all_goals go_wp2_with fail
                  all_goals go_meet
                  all_goals exact ⟨rfl, _, ⟨fin.it own8 _ K8.it⟩⟩
                · go_upto_region 14 with (first | (go_at_call 17; refine H1.it.mono ?_; rintro e w7 ⟨ev7, own7, rfl, D7, K7⟩; obtain ⟨a7, e7⟩ := Coded.pos D7.out c0; subst e7) | fail)
                  have H2 := Aside.mk (fun W (kp : Keeps Nowhere w7 W) => (show Aside (Kw A w own7 W ph pg (T + ns.length) (wroteL L ky ns) (one ky (tget L ky)) _ _ ms) from ⟨K7.it.quiet kp⟩))
                  have K7o := K7
                  replace K7 : Aside (Kw A w own7 w7.drew ph pg (T + ns.length) (wroteL L ky ns) (one ky (tget L ky)) _ _ ms) := H2.it _ (Keeps.refl _ _).drew
                  have G2 := Aside.mk (kw_wroteG (ns := ns) K7 hzk (K7.it.grd HRD.it) HBY.it hb3.it (by have := len_one ky (tget L ky); omega))
                  rw [codeW_one, HCC.it] at G2
                  clear H2
                  go_region_held3 (fun w' => w'.cell? ⟨ob, 1, none⟩ = some (.int .i64 ky) ∧ w'.cell? ⟨ob, 4, none⟩ = some (.slice sa B sc)) (with_reducible exact Kw.op (by with_reducible assumption)) (first
                    | (go_at_call 17; refine G2.it.mono ?_; rintro e w8 ⟨ev8, own8, rfl, D8, K8⟩; obtain ⟨a8, e8⟩ := Coded.pos D8.out c0; subst e8)
                    | fail)
                  all_goals go_wp2_with fail
                  all_goals go_meet
                  all_goals exact ⟨rfl, _, ⟨fin.it own8 _ K8.it⟩⟩
              · have hne : Aside (key ≠ ky) := ⟨fun e => hkk e.symm⟩
                have b0 : (ky != key) = true := by simp [hkk]
                have fin : Aside (∀ own7 w7, Kw A w own7 w7 ph pg (T + ns.length) (wroteL L ky ns) (one key (tget L key)) [(ob, 31, [.int .i64 0, .int .i64 ky, .int .i64 n, .bool nx, .slice sa B sc])] (.slice q6 n6 c6) ms → Kn A w ph pg key ((j + 1) * 2097152) (j + 1) (wroteL L ky ns) w7) := ⟨fun own7 w7 h => ⟨own7, (T + ns.length), by have := hb5.it; omega, Nat.le_trans (len_wrote K6.it.h.ok ky ns) hb6.it, by have := h.drop; rw [show tget (wroteL L ky ns) key = tget L key by rw [opL_wrote]; exact opL_other hne.it]; exact this⟩⟩
                clear hkk
                go_upto_region 14 with (first | (go_at_call 17; refine H1.it.mono ?_; rintro e w7 ⟨ev7, own7, rfl, D7, K7⟩) | fail)
                obtain ⟨e1, e4⟩ := Kw.op K7
                go_quiet (fail)
                go_wp2_with fail
                go_meet
                exact ⟨rfl, _, ⟨fin.it own7 _ (K7.it.quiet ((Keeps.refl _ _).drewN _))⟩⟩
          · by_cases q1 : kd = 1
            · subst q1
              clear q0
              as_aux_lemma =>
                have H1 := Aside.mk (kw_closedH K6 hzk hb2.it)
                obtain ⟨cc, hcc⟩ : ∃ cc, wroteC L ky = cc := ⟨_, rfl⟩
                rw [hcc] at H1
                have HCC := Aside.mk hcc
                clear hcc
                by_cases hkk : ky = key
                · subst hkk
                  have fin : Aside (∀ own7 w7, Kw A w own7 w7 ph pg T (closedL L ky) (closedL (one ky (tget L ky)) ky) [(ob, 31, [.int .i64 1, .int .i64 ky, .int .i64 n, .bool nx, .slice sa B sc])] (.slice q6 n6 c6) ms → Kn A w ph pg ky ((j + 1) * 2097152) (j + 1) (closedL L ky) w7) := ⟨fun own7 w7 h => ⟨own7, T, by have := hb5.it; omega, Nat.le_trans (len_closed K6.it.h.ok ky) hb6.it, by have := h.drop; rw [opL_closed (one ky (tget L ky)), ← opL_one, ← opL_closed] at this; exact this⟩⟩
                  by_cases c0 : cc = 0
                  · subst c0
                    go_upto_region 17 with (first | (go_at_call 18; refine H1.it.mono ?_; rintro e w7 ⟨ev7, own7, rfl, D7, K7⟩; have e7 : ev7 = .nilIface := Coded.zero D7.out; subst e7) | fail)
                    have H2 := Aside.mk (fun W (kp : Keeps Nowhere w7 W) => (show Aside (Kw A w own7 W ph pg T (closedL L ky) (one ky (tget L ky)) _ _ ms) from ⟨K7.it.quiet kp⟩))
                    have K7o := K7
                    replace K7 : Aside (Kw A w own7 w7.drew ph pg T (closedL L ky) (one ky (tget L ky)) _ _ ms) := H2.it _ (Keeps.refl _ _).drew
                    have G2 := Aside.mk (kw_closedG K7 hzk (by have := len_one ky (tget L ky); omega))
                    rw [codeW_one, HCC.it] at G2
                    clear H2
                    go_region_held3 (fun w' => w'.cell? ⟨ob, 1, none⟩ = some (.int .i64 ky) ∧ w'.cell? ⟨ob, 4, none⟩ = some (.slice sa B sc)) (with_reducible exact Kw.op (by with_reducible assumption)) (first
                      | (go_at_call 18; refine G2.it.mono ?_; rintro e w8 ⟨ev8, own8, rfl, D8, K8⟩; have e8 : ev8 = .nilIface := Coded.zero D8.out; subst e8)
                      | fail)
                    all_goals go_wp2_with fail
                    all_goals go_meet
                    all_goals exact ⟨rfl, _, ⟨fin.it own8 _ K8.it⟩⟩
                  · go_upto_region 17 with (first | (go_at_call 18; refine H1.it.mono ?_; rintro e w7 ⟨ev7, own7, rfl, D7, K7⟩; obtain ⟨a7, e7⟩ := Coded.pos D7.out c0; subst e7) | fail)
                    have H2 := Aside.mk (fun W (kp : Keeps Nowhere w7 W) => (show Aside (Kw A w own7 W ph pg T (closedL L ky) (one ky (tget L ky)) _ _ ms) from ⟨K7.it.quiet kp⟩))
                    have K7o := K7
                    replace K7 : Aside (Kw A w own7 w7.drew ph pg T (closedL L ky) (one ky (tget L ky)) _ _ ms) := H2.it _ (Keeps.refl _ _).drew
                    have G2 := Aside.mk (kw_closedG K7 hzk (by have := len_one ky (tget L ky); omega))
                    rw [codeW_one, HCC.it] at G2
                    clear H2
                    go_region_held3 (fun w' => w'.cell? ⟨ob, 1, none⟩ = some (.int .i64 ky) ∧ w'.cell? ⟨ob, 4, none⟩ = some (.slice sa B sc)) (with_reducible exact Kw.op (by with_reducible assumption)) (first
                      | (go_at_call 18; refine G2.it.mono ?_; rintro e w8 ⟨ev8, own8, rfl, D8, K8⟩; obtain ⟨a8, e8⟩ := Coded.pos D8.out c0; subst e8)
                      | fail)
                    all_goals go_wp2_with fail
                    all_goals go_meet
                    all_goals exact ⟨rfl, _, ⟨fin.it own8 _ K8.it⟩⟩
                · have hne : Aside (key ≠ ky) := ⟨fun e => hkk e.symm⟩
                  have b0 : (ky != key) = true := by simp [hkk]
                  have fin : Aside (∀ own7 w7, Kw A w own7 w7 ph pg T (closedL L ky) (one key (tget L key)) [(ob, 31, [.int .i64 1, .int .i64 ky, .int .i64 n, .bool nx, .slice sa B sc])] (.slice q6 n6 c6) ms → Kn A w ph pg key ((j + 1) * 2097152) (j + 1) (closedL L ky) w7) := ⟨fun own7 w7 h => ⟨own7, T, by have := hb5.it; omega, Nat.le_trans (len_closed K6.it.h.ok ky) hb6.it, by have := h.drop; rw [show tget (closedL L ky) key = tget L key by rw [opL_closed]; exact opL_other hne.it]; exact this⟩⟩
                  clear hkk
                  go_upto_region 17 with (first | (go_at_call 18; refine H1.it.mono ?_; rintro e w7 ⟨ev7, own7, rfl, D7, K7⟩) | fail)
                  obtain ⟨e1, e4⟩ := Kw.op K7
                  go_quiet (fail)
                  go_wp2_with fail
                  go_meet
                  exact ⟨rfl, _, ⟨fin.it own7 _ (K7.it.quiet ((Keeps.refl _ _).drewN _))⟩⟩
            · by_cases q2 : kd = 2
              · subst q2
                clear q0 q1
                as_aux_lemma =>
                  have H1 := Aside.mk (kw_gaveH K6 hzk HBM.it hb4.it hb2.it)
                  obtain ⟨cc, hcc⟩ : ∃ cc, gaveC L ky ms = cc := ⟨_, rfl⟩
                  rw [hcc] at H1
                  have HCC := Aside.mk hcc
                  clear hcc
                  by_cases hkk : ky = key
                  · subst hkk
                    have fin : Aside (∀ own7 w7, Kw A w own7 w7 ph pg T (gaveL L ky ms) (gaveL (one ky (tget L ky)) ky ms) [(ob, 31, [.int .i64 2, .int .i64 ky, .int .i64 n, .bool nx, .slice sa B sc])] (.slice q6 n6 c6) ms → Kn A w ph pg ky ((j + 1) * 2097152) (j + 1) (gaveL L ky ms) w7) := ⟨fun own7 w7 h => ⟨own7, T, by have := hb5.it; omega, Nat.le_trans (len_gave K6.it.h.ok ky ms) hb6.it, by have := h.drop; rw [opL_gave (one ky (tget L ky)), ← opL_one, ← opL_gave] at this; exact this⟩⟩
                    by_cases c0 : cc = 0
                    · subst c0
                      go_upto_region 20 with (first | (go_at_call 19; refine H1.it.mono ?_; rintro e w7 ⟨ev7, own7, rfl, D7, K7⟩; have e7 : ev7 = .nilIface := Coded.zero D7.out; subst e7) | fail)
                      have H2 := Aside.mk (fun W (kp : Keeps Nowhere w7 W) => (show Aside (Kw A w own7 W ph pg T (gaveL L ky ms) (one ky (tget L ky)) _ _ ms) from ⟨K7.it.quiet kp⟩))
                      have K7o := K7
                      replace K7 : Aside (Kw A w own7 w7.drew ph pg T (gaveL L ky ms) (one ky (tget L ky)) _ _ ms) := H2.it _ (Keeps.refl _ _).drew
                      have G2 := Aside.mk (kw_gaveG (ns := ms) K7 hzk K7.it.b.1 HBM.it hb4.it (by have := len_one ky (tget L ky); omega))
                      rw [codeG_one, HCC.it] at G2
                      clear H2
                      go_region_held3 (fun w' => w'.cell? ⟨ob, 1, none⟩ = some (.int .i64 ky) ∧ w'.cell? ⟨ob, 4, none⟩ = some (.slice sa B sc)) (with_reducible exact Kw.op (by with_reducible assumption)) (first
                        | (go_at_call 19; refine G2.it.mono ?_; rintro e w8 ⟨ev8, own8, rfl, D8, K8⟩; have e8 : ev8 = .nilIface := Coded.zero D8.out; subst e8)
                        | fail)
                      all_goals go_wp2_with fail
                      all_goals go_meet
                      all_goals exact ⟨rfl, _, ⟨fin.it own8 _ K8.it⟩⟩
                    · go_upto_region 20 with (first | (go_at_call 19; refine H1.it.mono ?_; rintro e w7 ⟨ev7, own7, rfl, D7, K7⟩; obtain ⟨a7, e7⟩ := Coded.pos D7.out c0; subst e7) | fail)
                      have H2 := Aside.mk (fun W (kp : Keeps Nowhere w7 W) => (show Aside (Kw A w own7 W ph pg T (gaveL L ky ms) (one ky (tget L ky)) _ _ ms) from ⟨K7.it.quiet kp⟩))
                      have K7o := K7
                      replace K7 : Aside (Kw A w own7 w7.drew ph pg T (gaveL L ky ms) (one ky (tget L ky)) _ _ ms) := H2.it _ (Keeps.refl _ _).drew
                      have G2 := Aside.mk (kw_gaveG (ns := ms) K7 hzk K7.it.b.1 HBM.it hb4.it (by have := len_one ky (tget L ky); omega))
                      rw [codeG_one, HCC.it] at G2
                      clear H2
                      go_region_held3 (fun w' => w'.cell? ⟨ob, 1, none⟩ = some (.int .i64 ky) ∧ w'.cell? ⟨ob, 4, none⟩ = some (.slice sa B sc)) (with_reducible exact Kw.op (by with_reducible assumption)) (first
                        | (go_at_call 19; refine G2.it.mono ?_; rintro e w8 ⟨ev8, own8, rfl, D8, K8⟩; obtain ⟨a8, e8⟩ := Coded.pos D8.out c0; subst e8)
                        | fail)
                      all_goals go_wp2_with fail
                      all_goals go_meet
                      all_goals exact ⟨rfl, _, ⟨fin.it own8 _ K8.it⟩⟩
                  · have hne : Aside (key ≠ ky) := ⟨fun e => hkk e.symm⟩
                    have b0 : (ky != key) = true := by simp [hkk]
                    have fin : Aside (∀ own7 w7, Kw A w own7 w7 ph pg T (gaveL L ky ms) (one key (tget L key)) [(ob, 31, [.int .i64 2, .int .i64 ky, .int .i64 n, .bool nx, .slice sa B sc])] (.slice q6 n6 c6) ms → Kn A w ph pg key ((j + 1) * 2097152) (j + 1) (gaveL L ky ms) w7) := ⟨fun own7 w7 h => ⟨own7, T, by have := hb5.it; omega, Nat.le_trans (len_gave K6.it.h.ok ky ms) hb6.it, by have := h.drop; rw [show tget (gaveL L ky ms) key = tget L key by rw [opL_gave]; exact opL_other hne.it]; exact this⟩⟩
                    clear hkk
                    go_upto_region 20 with (first | (go_at_call 19; refine H1.it.mono ?_; rintro e w7 ⟨ev7, own7, rfl, D7, K7⟩) | fail)
                    obtain ⟨e1, e4⟩ := Kw.op K7
                    go_quiet (fail)
                    go_wp2_with fail
                    go_meet
                    exact ⟨rfl, _, ⟨fin.it own7 _ (K7.it.quiet ((Keeps.refl _ _).drewN _))⟩⟩
              · have f0 : (kd == 0) = false := by simp [q0]
                have f1 : (kd == 1) = false := by simp [q1]
                have f2 : (kd == 2) = false := by simp [q2]
                clear q0 q1 q2
                as_aux_lemma =>
                  have H1 := Aside.mk (kw_endedH K6 hzk hb2.it)
                  obtain ⟨cc, hcc⟩ : ∃ cc, endedC L ky = cc := ⟨_, rfl⟩
                  rw [hcc] at H1
                  have HCC := Aside.mk hcc
                  clear hcc
                  by_cases hkk : ky = key
                  · subst hkk
                    have fin : Aside (∀ own7 w7, Kw A w own7 w7 ph pg T (endedL L ky) (endedL (one ky (tget L ky)) ky) [(ob, 31, [.int .i64 kd, .int .i64 ky, .int .i64 n, .bool nx, .slice sa B sc])] (.slice q6 n6 c6) ms → Kn A w ph pg ky ((j + 1) * 2097152) (j + 1) (endedL L ky) w7) := ⟨fun own7 w7 h => ⟨own7, T, by have := hb5.it; omega, Nat.le_trans (len_ended K6.it.h.ok ky) hb6.it, by have := h.drop; rw [opL_ended (one ky (tget L ky)), ← opL_one, ← opL_ended] at this; exact this⟩⟩
                    by_cases c0 : cc = 0
                    · subst c0
                      go_upto_region 11 with (first | (go_at_call 20; refine H1.it.mono ?_; rintro e w7 ⟨ev7, own7, rfl, D7, K7⟩; have e7 : ev7 = .nilIface := Coded.zero D7.out; subst e7) | fail)
                      have H2 := Aside.mk (fun W (kp : Keeps Nowhere w7 W) => (show Aside (Kw A w own7 W ph pg T (endedL L ky) (one ky (tget L ky)) _ _ ms) from ⟨K7.it.quiet kp⟩))
                      have K7o := K7
                      replace K7 : Aside (Kw A w own7 w7.drew ph pg T (endedL L ky) (one ky (tget L ky)) _ _ ms) := H2.it _ (Keeps.refl _ _).drew
                      have G2 := Aside.mk (kw_endedG K7 hzk (by have := len_one ky (tget L ky); omega))
                      rw [codeE_one, HCC.it] at G2
                      clear H2
                      go_region_held3 (fun w' => w'.cell? ⟨ob, 1, none⟩ = some (.int .i64 ky) ∧ w'.cell? ⟨ob, 4, none⟩ = some (.slice sa B sc)) (with_reducible exact Kw.op (by with_reducible assumption)) (first
                        | (go_at_call 20; refine G2.it.mono ?_; rintro e w8 ⟨ev8, own8, rfl, D8, K8⟩; have e8 : ev8 = .nilIface := Coded.zero D8.out; subst e8)
                        | fail)
                      all_goals go_wp2_with fail
                      all_goals go_meet
                      all_goals exact ⟨rfl, _, ⟨fin.it own8 _ K8.it⟩⟩
                    · go_upto_region 11 with (first | (go_at_call 20; refine H1.it.mono ?_; rintro e w7 ⟨ev7, own7, rfl, D7, K7⟩; obtain ⟨a7, e7⟩ := Coded.pos D7.out c0; subst e7) | fail)
                      have H2 := Aside.mk (fun W (kp : Keeps Nowhere w7 W) => (show Aside (Kw A w own7 W ph pg T (endedL L ky) (one ky (tget L ky)) _ _ ms) from ⟨K7.it.quiet kp⟩))
                      have K7o := K7
                      replace K7 : Aside (Kw A w own7 w7.drew ph pg T (endedL L ky) (one ky (tget L ky)) _ _ ms) := H2.it _ (Keeps.refl _ _).drew
                      have G2 := Aside.mk (kw_endedG K7 hzk (by have := len_one ky (tget L ky); omega))
                      rw [codeE_one, HCC.it] at G2
                      clear H2
                      go_region_held3 (fun w' => w'.cell? ⟨ob, 1, none⟩ = some (.int .i64 ky) ∧ w'.cell? ⟨ob, 4, none⟩ = some (.slice sa B sc)) (with_reducible exact Kw.op (by with_reducible assumption)) (first
                        | (go_at_call 20; refine G2.it.mono ?_; rintro e w8 ⟨ev8, own8, rfl, D8, K8⟩; obtain ⟨a8, e8⟩ := Coded.pos D8.out c0; subst e8)
                        | fail)
                      all_goals go_wp2_with fail
                      all_goals go_meet
                      all_goals exact ⟨rfl, _, ⟨fin.it own8 _ K8.it⟩⟩
                  · have hne : Aside (key ≠ ky) := ⟨fun e => hkk e.symm⟩
                    have b0 : (ky != key) = true := by simp [hkk]
                    have fin : Aside (∀ own7 w7, Kw A w own7 w7 ph pg T (endedL L ky) (one key (tget L key)) [(ob, 31, [.int .i64 kd, .int .i64 ky, .int .i64 n, .bool nx, .slice sa B sc])] (.slice q6 n6 c6) ms → Kn A w ph pg key ((j + 1) * 2097152) (j + 1) (endedL L ky) w7) := ⟨fun own7 w7 h => ⟨own7, T, by have := hb5.it; omega, Nat.le_trans (len_ended K6.it.h.ok ky) hb6.it, by have := h.drop; rw [show tget (endedL L ky) key = tget L key by rw [opL_ended]; exact opL_other hne.it]; exact this⟩⟩
                    clear hkk
                    go_upto_region 11 with (first | (go_at_call 20; refine H1.it.mono ?_; rintro e w7 ⟨ev7, own7, rfl, D7, K7⟩) | fail)
                    obtain ⟨e1, e4⟩ := Kw.op K7
                    go_quiet (fail)
                    go_wp2_with fail
                    go_meet
                    exact ⟨rfl, _, ⟨fin.it own7 _ (K7.it.quiet ((Keeps.refl _ _).drewN _))⟩⟩
        case rest =>
          obtain ⟨rfl, L7, J7⟩ := hcut
          obtain ⟨own7, T7, hT7, hL7, kw7⟩ := J7.it
          have hT8 : Aside (T7 ≤ 70368744177664) := ⟨by omega⟩
          have HT7 := Aside.mk (And.intro hT7 hL7)
          have K7 := Aside.mk kw7
          clear K6 J7 d0 d1 d2 d3 d4 hT7 hL7 kw7
          obtain ⟨kn, hkn⟩ : ∃ kn, (tget L7 key).isSome = kn := ⟨_, rfl⟩
          obtain ⟨rr, hrr⟩ : ∃ rr, got L7 key = rr := ⟨_, rfl⟩
          have hrg : got (one key (tget L7 key)) key = rr := by rw [got_one]; exact hrr
          have PH := Aside.mk (past_at K7.it.h HK.it)
          rw [hkn, hrr] at PH
          obtain ⟨wl, hwl⟩ : ∃ wl, rr.wr.length = wl := ⟨_, rfl⟩
          simp only [pastV, hwl] at PH
          have HKN := Aside.mk hkn
          have HRR := Aside.mk (And.intro hrr (And.intro hrg hwl))
          clear hkn hrr hrg hwl
          go_upto_region 22 with (first | (go_at_call 21; refine PH.it.mono ?_; rintro e w8 ⟨rfl, K8⟩) | fail)
          obtain ⟨own9, K9⟩ : ∃ own9, Aside (Kw A w own9 (w8.alloc (.cells #[.int .i64 wl, .int .i64 rr.rd, .bool rr.cl, .bool rr.en] 47)) ph pg T7 L7 (one key (tget L7 key)) [(w8.heap.size, 47, pastC wl rr.rd rr.cl rr.en)] (.slice none 0 0) []) := ⟨_, ⟨(K7.it.quiet K8.it).box 47 (pastC wl rr.rd rr.cl rr.en)⟩⟩
          generalize w8.alloc (.cells #[.int .i64 wl, .int .i64 rr.rd, .bool rr.cl, .bool rr.en] 47) = w9 at K9 ⊢
          generalize w8.heap.size = pb at K9 ⊢
          have PG := Aside.mk (past_at K9.it.k HK.it)
          rw [tget_one, HKN.it, HRR.it.2.1] at PG
          simp only [pastV, HRR.it.2.2] at PG
          clear PH K8 K7
          go_upto_region 23 with (first | (go_at_call 21; refine PG.it.mono ?_; rintro e w10 ⟨rfl, K10⟩) | fail)
          obtain ⟨own11, K11⟩ : ∃ own11, Aside (Kw A w own11 (w10.alloc (.cells #[.int .i64 wl, .int .i64 rr.rd, .bool rr.cl, .bool rr.en] 47)) ph pg T7 L7 (one key (tget L7 key)) [(w10.heap.size, 47, pastC wl rr.rd rr.cl rr.en), (pb, 47, pastC wl rr.rd rr.cl rr.en)] (.slice none 0 0) []) := ⟨_, ⟨(K9.it.quiet K10.it).box 47 (pastC wl rr.rd rr.cl rr.en)⟩⟩
          generalize w10.alloc (.cells #[.int .i64 wl, .int .i64 rr.rd, .bool rr.cl, .bool rr.en] 47) = w11 at K11 ⊢
          generalize w10.heap.size = qb at K11 ⊢
          clear PG K10 K9
          have pn := past_neql wl rr.rd rr.cl rr.en
          have K12 : Aside (Kw A w own11 w11.drew ph pg T7 L7 (one key (tget L7 key)) _ _ _) := ⟨K11.it.quiet (Keeps.refl _ _).drew⟩
          obtain ⟨ss, hss⟩ : ∃ ss, strOf rr.rest = ss := ⟨_, rfl⟩
          have HSS := Aside.mk hss
          clear hss K11
          go_cut [153] (fun t wx => t = .bool false ∧ Aside (Kn A w ph pg key ((j + 1) * 2097152) (j + 1) L7 wx))
          case first =>
            go_region_held_law (fun W => W.cell? ⟨pb, 0, none⟩ = some (.int .i64 wl) ∧ W.cell? ⟨pb, 1, none⟩ = some (.int .i64 rr.rd) ∧ W.cell? ⟨pb, 2, none⟩ = some (.bool rr.cl) ∧ W.cell? ⟨pb, 3, none⟩ = some (.bool rr.en) ∧ W.cell? ⟨qb, 0, none⟩ = some (.int .i64 wl) ∧ W.cell? ⟨qb, 1, none⟩ = some (.int .i64 rr.rd) ∧ W.cell? ⟨qb, 2, none⟩ = some (.bool rr.cl) ∧ W.cell? ⟨qb, 3, none⟩ = some (.bool rr.en)) (with_reducible exact Kw.two (by with_reducible assumption)) (first
              | (go_at_call 22; refine (kw_restG K13 HK.it hT8.it).mono ?_; rintro e w14 ⟨q14, n14, c14, rfl, R14, CV14, KK14, K14⟩; rw [HRR.it.2.1, HSS.it] at CV14; have CVx := rd_conv (R13.it.later KK14.it.bel); rw [HRR.it.1, HSS.it] at CVx)
              | (go_at_call 22; refine (kw_restH K12 HK.it hT8.it).mono ?_; rintro e w13 ⟨q13, n13, c13, rfl, R13, CV13, KK13, K13⟩; rw [HRR.it.1, HSS.it] at CV13)
              | fail)
            all_goals go_wp2_with fail
            all_goals go_meet
            all_goals exact ⟨rfl, ⟨own11, T7, HT7.it.1, HT7.it.2, K14.it.drop⟩⟩
          case rest =>
            obtain ⟨rfl, J9⟩ := hcut
            go_wp2_with fail
            go_roundw
            case rel => exact ⟨j + 1, L7, by go_num, by omega, J9⟩
            case measure => simp [natOfT]; omega
  case rest =>
    obtain ⟨L, J⟩ := hcut
    obtain ⟨own, T, hT, hL, kw⟩ := J.it
    clear J J2 X2 X3
    have KY := Aside.mk (keys_at kw.h)
    have OK := Aside.mk kw.h.ok
    have KW := Aside.mk kw
    have htk : Aside ((tk L).length = L.length) := ⟨kw.h.ok.len_get⟩
    obtain ⟨M, hM⟩ : ∃ M, L.length = M := ⟨_, rfl⟩
    have HM := Aside.mk hM
    have hM2 : (M : Int) ≤ 1048576 := by omega
    clear hM kw hT hL
    go_upto_region 27 with (first | (go_at_call 13; refine KY.it.mono ?_; rintro e w5 ⟨kv, rfl, R5, K5⟩; obtain ⟨kq, kc, hkv⟩ := owns_val R5.it; rw [htk.it, HM.it] at hkv; subst hkv) | fail)
    clear KY
    go_upto_block 3 with fail
    go_cut [159] (fun _ wx => Aside (Keeps Nowhere w5 wx))
    case first =>
      go_wp2_with fail
      go_loopw [159] (fun jv wr => ∃ j : Nat, jv = .int .i64 j ∧ j ≤ M ∧ Aside (Keeps Nowhere w5 wr)) (fun jv _ => M - natOfT jv)
      case atStart => exact ⟨0, rfl, Nat.zero_le _, ⟨Keeps.refl _ _⟩⟩
      case round =>
        obtain ⟨j, rfl, hj, KJ⟩ := hrel
        rcases Nat.eq_or_lt_of_le hj with rfl | hlt
        · go_wp2_with fail
          go_meet
          exact KJ
        · have hjl : j < (tk L).length := by rw [htk.it, HM.it]; exact hlt
          obtain ⟨zj, hzj⟩ : ∃ zj, (tk L)[j]? = some zj := ⟨_, List.getElem?_eq_getElem hjl⟩
          have Rr : RwI wc wr (.slice kq M kc) (tk L) := owns_later R5.it KJ.it (fun _ _ x => x)
          obtain ⟨g, rfl, hcell⟩ := Rr.cell hzj
          have i1 : (j : Int) ≤ 9223372036854775806 := by omega
          cases j with
          | zero =>
            clear Rr hzj
            go_upto_region 30 with fail
            go_quiet (fail)
            go_wp2_with fail
            go_roundw
            case rel => exact ⟨1, by go_num, by omega, ⟨KJ.it.trans ((Keeps.refl _ _).drewN _)⟩⟩
            case measure => simp [natOfT]; omega
          | succ t =>
            obtain ⟨zt, hzt⟩ : ∃ zt, (tk L)[t]? = some zt := ⟨_, List.getElem?_eq_getElem (by omega)⟩
            obtain ⟨g2, e2, hcell2⟩ := Rr.cell hzt
            injection e2 with e2
            injection e2 with e2 _ _
            subst e2
            have hup : zt < zj := by
              have h := OK.it.up
              have := List.pairwise_iff_getElem.1 h t (t + 1) (by omega) hjl (by omega)
              rw [List.getElem?_eq_getElem (by omega)] at hzt
              rw [List.getElem?_eq_getElem hjl] at hzj
              simp only [Option.some.injEq] at hzt hzj
              omega
            have d1 : decide (zj ≤ zt) = false := decide_eq_false (by omega)
            have d2 : decide (zt ≥ zj) = false := decide_eq_false (by omega)
            have ew : ((t : Int) + 1) - 1 = (t : Int) := by omega
            have t1 : ((t : Int) + 1).toNat = t + 1 := by omega
            have t2 : (t : Int) < (M : Int) := by omega
            have t3 : (t : Int) + 1 < (M : Int) := by omega
            have t4 : (0 : Int) ≤ (t : Int) + 1 := by omega
            have t5 : (0 : Int) < (t : Int) + 1 := by omega
            clear Rr hzj hzt hup
            go_upto_region 30 with fail
            go_quiet (fail)
            go_wp2_with fail
            go_roundw
            case rel => exact ⟨t + 1 + 1, by go_num, by omega, ⟨KJ.it.trans ((Keeps.refl _ _).drewN _)⟩⟩
            case measure => simp [natOfT]; omega
    case rest =>
      have KG := Aside.mk (keys_at (KW.it.quiet (K5.it.trans hcut.it)).k)
      have hl1 : Aside ((tk (one key (tget L key))).length ≤ 1) := ⟨by have := len_one key (tget L key); simpa [tk] using this⟩
      obtain ⟨m1, hm1⟩ : ∃ m1, (tk (one key (tget L key))).length = m1 := ⟨_, rfl⟩
      have hm2 : (m1 : Int) ≤ 1 := by have := hl1.it; omega
      have HM1 := Aside.mk hm1
      have d1 : decide ((m1 : Int) ≤ 1) = true := decide_eq_true hm2
      clear hm1
      go_wp2_with (first | (go_at_call 13; refine KG.it.mono ?_; rintro e w6 ⟨kv6, rfl, R6, K6⟩; obtain ⟨kq6, kc6, hkv6⟩ := owns_val R6.it; rw [HM1.it] at hkv6; subst hkv6) | fail)
      go_ret
      exact ⟨rfl, ((KW.it.quiet (K5.it.trans hcut.it)).quiet K6.it).g.g.bel⟩
end Go.Proofs.YteojdangidnnkaaDoor
