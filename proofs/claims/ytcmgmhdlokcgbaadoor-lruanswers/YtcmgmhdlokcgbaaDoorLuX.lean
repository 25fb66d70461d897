/-
  culvertref28: Put that goes through
-/
import Derived.Test.YtcmgmhdlokcgbaaDoorLuW
namespace Go.Proofs.YtcmgmhdlokcgbaaDoor
open Go.RowKit Lulnn

variable {w w' w0 W : World} {own own' : Nat → Nat} {i c o j b q n cb xb rb m : Nat} {room R k now : Int} {L M : List Rx} {I : Nat → Prop} {A : Nat → Addr} {x y : Rx} {z : Oz} {v va vb gv : Value} {ks ms : List Int}

theorem rev_at (m : Nat) (y : Rx) (h : (M.drop m).reverse = (M.drop (m + 1)).reverse ++ [y]) (hlt : m < M.length) : M[m]? = some y := by
  rw [List.drop_eq_getElem_cons hlt, List.reverse_cons] at h
  have := List.append_cancel_left h
  injection this with h1 _
  rw [List.getElem?_eq_getElem hlt, h1]
set_option maxRecDepth 20000 in
set_option maxHeartbeats 8000000 in
theorem dput_ok (h : RdX own w v L) (ho : LOk R L) (hx : x.Ok) (hr : x.w ≤ R) (hmax : (1 + L.length) * 32 ≤ 140737488355328) : Calls Tryd.prog 48 #[cch R v, xag x] w fun e w' => ∃ qa qn qc ga gn gc, e = .returned (.tuple #[cch R (.slice qa qn qc), .slice ga gn gc, .int .i64 0]) ∧ Aside (RdX (give own w.heap.size 9) w' (.slice qa qn qc) (putL R L x)) ∧ Aside (OwR (give own w.heap.size 9) 9 w' 3 1 (.slice ga gn gc) (goneX R L x).length (rk (goneX R L x))) ∧ Aside (Keeps Nowhere w w') := by
  have H := Aside.mk h
  obtain ⟨a, c, rfl, hlc, hcm, _⟩ := h.sh
  clear h
  have mx : maxLen ≤ 9223372036854775807 := by decide
  have HYM := fun (M : List Rx) => @rev_at M
  obtain ⟨W1, hW1⟩ : ∃ W1, ((w.alloc (.cells #[.int .i64 R, .slice a L.length c] 31)).alloc (.cells #[.int .i64 x.k, .int .i64 x.t, .int .i64 x.w, .int .i64 x.u] 102)).alloc (.cells #[.int .i64 0, .slice none 0 0] 31) = W1 := ⟨_, rfl⟩
  obtain ⟨K1, C1, CX, C2⟩ := boxes3 w R (.slice a L.length c) x W1 hW1
  have X1 : Aside (Pg own w W1 R x L [] (.slice a L.length c) (.slice none 0 0)) := ⟨C1.it, CX.it, C2.it, H.it.sn (I := fun _ => False) (Sn.quiet K1.it 9) (fun x => x), World.ownsRow_nil _ _ _ _, K1.it⟩
  have d0 : W1.cell? ⟨w.heap.size, 0, none⟩ = some (.int .i64 R) := by rw [C1.it.cell]; rfl
  have d1 : W1.cell? ⟨w.heap.size, 1, none⟩ = some (.slice a L.length c) := by rw [C1.it.cell]; rfl
  have x0 : W1.cell? ⟨w.heap.size + 1, 0, none⟩ = some (.int .i64 x.k) := by rw [CX.it.cell]; rfl
  have x2 : W1.cell? ⟨w.heap.size + 1, 2, none⟩ = some (.int .i64 x.w) := by rw [CX.it.cell]; rfl
  have DA := Aside.mk (dat X1.it.rd R x.k)
  have HO := Aside.mk ho
  have n0 : ¬ x.w < 0 := by have := hx.w.1; omega
  have n1 : ¬ R < x.w := by omega
  have hxw := hx.w
  have hr1 := ho.r1
  clear ho K1 C1 CX C2
  cases hf : findL L x.k with
  | none =>
    rw [at_none hf] at DA
    have HM0 : L = dropL L x.k := (dropL_none hf).symm
    obtain ⟨M, hM⟩ : ∃ M, M = L := ⟨_, rfl⟩
    have HM : Aside (M = dropL L x.k) := ⟨hM.trans HM0⟩
    have HML := Aside.mk hM
    clear HM0 hM hf
    go_enter Tryd.func48, Tryd.ntmps48
    go_upto_region 5 with fail
    clear hW1
    go_upto_region 8 with (first | (go_at_call 50; refine DA.it.mono ?_; clear DA; rintro e w2 ⟨rfl, K2⟩) | fail)
    obtain ⟨a3, ha3⟩ : ∃ a3, a3 = a := ⟨_, rfl⟩
    obtain ⟨n3, hn3⟩ : ∃ n3, n3 = L.length := ⟨_, rfl⟩
    obtain ⟨c3, hc3⟩ : ∃ c3, c3 = c := ⟨_, rfl⟩
    have X3 : Aside (Pg own w w2 R x M [] (.slice a3 n3 c3) (.slice none 0 0)) := ⟨by rw [HML.it, ha3, hn3, hc3]; exact X1.it.quiet K2.it⟩
    rw [← hn3] at *
    subst ha3 hc3
    clear d0 d1 x0 x2 X1
    have LM : Aside (LOk R M) := ⟨by rw [HM.it]; exact HO.it.drop x.k⟩
    have ML : M.length ≤ L.length := by rw [HM.it]; exact dropL_len
    have DW := Aside.mk (dweight X3.it.rd R LM.it)
    have c0 := X3.it.bx.cell 0
    have c1 := X3.it.bx.cell 1
    simp only [List.getElem?_cons_zero, List.getElem?_cons_succ] at c0 c1
    go_upto_region 10 with (first | (go_at_call 53; refine DW.it.mono ?_; clear DW; rintro e w5 ⟨rfl, K5⟩) | fail)
    have X5 := Aside.mk (X3.it.quiet K5.it)
    clear X3 c0 c1
    have e0 : sumL (M.take M.length) = sumL M := by rw [List.take_length]
    go_loopw [8, 9] (fun gv sv wr => ∃ (m : Nat) (ga : Option Addr) (gn gc : Nat) (qa : Option Addr) (qn qc : Nat), gv = .slice ga gn gc ∧ sv = .int .i64 (sumL (M.take m)) ∧ m ≤ M.length ∧ Aside (fitN (R - x.w) M m = fit (R - x.w) M) ∧ Aside (Pg own w wr R x (M.take m) (M.drop m).reverse (.slice qa qn qc) (.slice ga gn gc))) (fun gv _ _ => M.length - natP gv)
    case atStart =>
      refine ⟨M.length, none, 0, 0, a3, n3, c3, rfl, by rw [e0], Nat.le_refl _, ⟨rfl⟩, ⟨?_⟩⟩
      rw [List.take_length, List.drop_length]
      exact X5.it
    case round =>
      clear X5 e0
      obtain ⟨m, ga, gn, gc, qa, qn, qc, rfl, rfl, hm, F, X⟩ := hrel
      have HGN : Aside (gn = M.length - m) := ⟨by
        have := owns_len1 X.it.go
        rw [List.length_reverse, List.length_drop] at this
        exact this⟩
      have hqn : qn = m := by
        obtain ⟨a4, c4, e4, _⟩ := X.it.rd.sh
        injection e4 with _ e5 _
        rw [List.length_take] at e5
        omega
      subst hqn
      have c0 := X.it.bx.cell 0
      have c1 := X.it.bx.cell 1
      have xw := X.it.xx.cell 2
      simp only [List.getElem?_cons_zero, List.getElem?_cons_succ] at c0 c1 xw
      have s1 := sum_le LM.it qn
      have lim1 : -9223372036854775808 ≤ R - x.w := by omega
      have lim2 : R - x.w ≤ 9223372036854775807 := by omega
      by_cases hs : sumL (M.take qn) ≤ R - x.w
      · have hs' : ¬ R - x.w < sumL (M.take qn) := by omega
        have E : Aside (fit (R - x.w) M = qn) := ⟨by rw [← F.it]; exact fitN_stop hs⟩
        have FI := Aside.mk (dfirst X.it.rd R x (by rw [List.length_take]; omega))
        have x0 := X.it.xx.cell 0
        have x1 := X.it.xx.cell 1
        have x3 := X.it.xx.cell 3
        simp only [List.getElem?_cons_zero, List.getElem?_cons_succ] at x0 x1 x3
        generalize sumL (M.take qn) = S at hs hs' s1 ⊢
        have XS := Aside.mk X.it.sz
        go_upto_region 15 with fail
        go_wp2_with (first
          | (go_at_call 80; refine FI.it.mono ?_; clear FI; rintro e w7 ⟨ra, rn, rc, rfl, O7, K7⟩
             have X7 := Aside.mk (X.it.quiet K7.it)
             have z0 := X7.it.rr.cell 0
             have z1 := X7.it.rr.cell 1
             simp only [List.getElem?_cons_zero, List.getElem?_cons_succ] at z0 z1
             have h0 := X7.it.rr.frozen 0
             have h1 := X7.it.rr.frozen 1)
          | fail)
        obtain ⟨u0, u1, KF, KR⟩ := res28 w X7.it.rr (by omega) X7.it.kp R (.slice ra rn rc)
        refine bodyPost_ret (v := .tuple #[cch R (.slice ra rn rc), .slice ga gn gc, .int .i64 0]) (by simp [results, Tryd.f48, go_sem, u0, u1]) rfl ?_
        have ep : putL R L x = x :: M.take qn := by unfold putL; rw [← HM.it, E.it]
        have eg : goneX R L x = (M.drop qn).reverse := by unfold goneX; rw [← HM.it, E.it]
        rw [ep, eg]
        have xs := XS.it
        refine ⟨ra, rn, rc, ga, gn, gc, rfl, ⟨?_⟩, ⟨?_⟩, KF⟩
        · refine owns_rdN (owns_later O7.it KR.it (fun b hb e => ?_)) rfl (by omega)
          have := owns_base O7.it b hb
          omega
        · refine OwR.new (owns_base_le (owns_later X7.it.go KR.it (fun b hb e => ?_)) (by omega))
          have := owns_base X7.it.go b hb
          omega
      · have hs' : R - x.w < sumL (M.take qn) := by omega
        have hm0 : qn ≠ 0 := by
          rintro rfl
          rw [List.take_zero, sumL_nil] at hs
          omega
        obtain ⟨m, rfl⟩ : ∃ m, qn = m + 1 := ⟨qn - 1, by omega⟩
        have hlt : m < M.length := by omega
        obtain ⟨y, hy⟩ : ∃ y, M[m]? = some y := ⟨_, List.getElem?_eq_getElem hlt⟩
        have hyt : (M.take (m + 1))[m]? = some y := by rw [List.getElem?_take_of_lt (by omega)]; exact hy
        have E : Aside (fitN (R - x.w) M m = fit (R - x.w) M) := ⟨by rw [← F.it]; exact (fitN_on hs).symm⟩
        have es : sumL (M.take (m + 1)) = sumL (M.take m) + y.w := by rw [Rx_take_snoc hy, sumL_append, sumL_cons, sumL_nil, Int.add_zero]
        have s2 := sum_le LM.it m
        obtain ⟨g, c', hv, _, y0, y1, y2, y3⟩ := X.it.rd.at_ m y hyt
        injection hv with hv1 hv2 hv3
        subst hv1 hv3
        clear hv2
        have ED : Aside ((M.drop m).reverse = (M.drop (m + 1)).reverse ++ [y]) := ⟨by
          have h2 := List.getElem?_eq_some_iff.1 hy
          rw [List.drop_eq_getElem_cons h2.1, h2.2, List.reverse_cons]⟩
        have GL : ((M.drop (m + 1)).reverse).length = gn := (owns_len1 X.it.go).symm
        have hgn := HGN.it
        have OG : Aside (wr.ownsRow (w.heap.size + 1 + 1 + 1) 3 1 (.slice ga gn gc) gn (rk (M.drop (m + 1)).reverse)) := ⟨by have r := X.it.go; rw [GL] at r; exact r⟩
        have b3 : (gn + 1) * 8 ≤ 140737488355328 := by omega
        have b4 : gn + 1 ≤ maxLen := Nat.le_trans (show gn + 1 ≤ 140737488355328 by omega) (by decide)
        have XS := Aside.mk X.it.sz
        have t1 : -9223372036854775808 ≤ sumL (M.take (m + 1)) - y.w := by omega
        have t2 : sumL (M.take (m + 1)) - y.w ≤ 9223372036854775807 := by omega
        have ES : Aside (sumL (M.take (m + 1)) - y.w = sumL (M.take m)) := ⟨by omega⟩
        have HGL := Aside.mk GL
        clear hy hyt es s1 s2 hs hm0 F GL hgn
        generalize sumL (M.take (m + 1)) = S at hs' t1 t2 ES ⊢
        have hm1 : ((m : Int) + 1) - 1 = m := by omega
        go_upto_region 12 with fail
        go_upto_region 13 with (first
          | (at_builtin; refine wpList_appendR rfl _ _ 54 rfl 3 (.int .i64 0) 1 8 Tryd.underlying54 infoK rfl (by decide) wr ((Keeps.refl _ _).alloc _) (w.heap.size + 1 + 1 + 1) _ gn _ OG.it _ 1 [.int .i64 y.k] (readsK_new wr 3 [.int .i64 y.k]) rk_cells b3 b4 XS.it rfl rfl ?_
             intro v' w' o5 k5 b5
             obtain ⟨p1, p2, p3, hv'⟩ := owns_shapeK o5.it
             subst hv')
          | fail)
        have XA := Aside.mk (X.it.quiet ((Keeps.refl Nowhere wr).alloc (.cells #[.int .i64 y.k] 3)))
        have X6 := Aside.mk (XA.it.gone (L2 := (M.drop m).reverse) k5.it (by
          have r := o5.it
          rw [ED.it, rk_append, rk_one, List.length_append, HGL.it]
          exact r))
        clear c0 c1 xw y0 y1 y2 y3 o5 k5 b5 XA OG
        obtain ⟨g2, c'', hv, _, y0, y1, y2, y3⟩ := X6.it.rd.at_ m y (by rw [List.getElem?_take_of_lt (by omega)]; have := ED.it; exact (show M[m]? = some y from HYM M m y ED.it hlt))
        injection hv with hv1 hv2 hv3
        injection hv1 with hv1
        injection hv1 with hv1
        subst hv1 hv3
        clear hv2
        have c0 := X6.it.bx.cell 0
        have c1 := X6.it.bx.cell 1
        simp only [List.getElem?_cons_zero, List.getElem?_cons_succ] at c0 c1
        go_upto_region 14 with fail
        rw [ES.it]
        have tl : (M.take (m + 1)).length = m + 1 := by rw [List.length_take]; omega
        have WO := Aside.mk (dwithout X6.it.rd (i := m) R (by rw [tl]; omega) (by rw [tl]; omega))
        rw [take_erase M m hlt] at WO
        clear y0 y1 y2 y3
        go_wp2_with (first
          | (go_at_call 79; refine WO.it.mono ?_; clear WO; rintro e w8 ⟨ra, rn, rc, rfl, O8, K8⟩
             have X8 := Aside.mk (X6.it.quiet K8.it)
             have z0 := X8.it.bx.cell 0
             have z1 := X8.it.bx.cell 1
             simp only [List.getElem?_cons_zero, List.getElem?_cons_succ] at z0 z1
             have h0 := X8.it.bx.frozen 0
             have h1 := X8.it.bx.frozen 1)
          | fail)
        have p2e : p2 = M.length - m := by
          have := owns_len1 X6.it.go
          rw [List.length_reverse, List.length_drop] at this
          exact this
        have X9 := Aside.mk (X8.it.put (owns_rdN (own := own) (w := w) O8.it rfl X6.it.kp.size))
        go_roundw
        case rel => exact ⟨m, p1, p2, p3, ra, rn, rc, rfl, rfl, by omega, E, X9⟩
        case measure =>
          show M.length - p2 < M.length - gn
          have := HGN.it
          omega
  | some x' =>
    obtain ⟨j, hj, ht, he, hjl⟩ := find_split hf
    rw [atI_drop hj ht (findL_some hf).2] at DA
    obtain ⟨M, hM⟩ : ∃ M, M = L.eraseIdx j := ⟨_, rfl⟩
    have HM : Aside (M = dropL L x.k) := ⟨hM.trans he⟩
    have HML := Aside.mk hM
    clear hj ht he hf hM
    go_enter Tryd.func48, Tryd.ntmps48
    go_upto_region 5 with fail
    clear hW1
    go_upto_region 6 with (first | (go_at_call 50; refine DA.it.mono ?_; clear DA; rintro e w2 ⟨rfl, K2⟩) | fail)
    have X2 := Aside.mk (X1.it.quiet K2.it)
    clear d0 d1 x0 x2 X1
    have d0 := X2.it.bx.cell 0
    have d1 := X2.it.bx.cell 1
    simp only [List.getElem?_cons_zero, List.getElem?_cons_succ] at d0 d1
    have WO := Aside.mk (dwithout X2.it.rd R hjl (by omega))
    go_upto_region 8 with (first
      | (go_at_call 79; refine WO.it.mono ?_; clear WO; rintro e w4 ⟨a3, n3, c3, rfl, O4, K4⟩
         have X4 := Aside.mk (X2.it.quiet K4.it)
         have z0 := X4.it.bx.cell 0
         have z1 := X4.it.bx.cell 1
         simp only [List.getElem?_cons_zero, List.getElem?_cons_succ] at z0 z1
         have h0 := X4.it.bx.frozen 0
         have h1 := X4.it.bx.frozen 1)
      | fail)
    have X3 : Aside (Pg own w ((w4.setCell ⟨w.heap.size, 0, none⟩ (.int .i64 R)).setCell ⟨w.heap.size, 1, none⟩ (.slice a3 n3 c3)) R x M [] (.slice a3 n3 c3) (.slice none 0 0)) := ⟨X4.it.put (by rw [HML.it]; exact owns_rdN O4.it rfl X2.it.kp.size)⟩
    generalize (w4.setCell ⟨w.heap.size, 0, none⟩ (.int .i64 R)).setCell ⟨w.heap.size, 1, none⟩ (.slice a3 n3 c3) = w5 at X3 ⊢
    clear d0 d1 z0 z1 h0 h1 X2 X4 O4
    have LM : Aside (LOk R M) := ⟨by rw [HM.it]; exact HO.it.drop x.k⟩
    have ML : M.length ≤ L.length := by rw [HM.it]; exact dropL_len
    have DW := Aside.mk (dweight X3.it.rd R LM.it)
    have c0 := X3.it.bx.cell 0
    have c1 := X3.it.bx.cell 1
    simp only [List.getElem?_cons_zero, List.getElem?_cons_succ] at c0 c1
    go_upto_region 10 with (first | (go_at_call 53; refine DW.it.mono ?_; clear DW; rintro e w5 ⟨rfl, K5⟩) | fail)
    have X5 := Aside.mk (X3.it.quiet K5.it)
    clear X3 c0 c1
    have e0 : sumL (M.take M.length) = sumL M := by rw [List.take_length]
    go_loopw [8, 9] (fun gv sv wr => ∃ (m : Nat) (ga : Option Addr) (gn gc : Nat) (qa : Option Addr) (qn qc : Nat), gv = .slice ga gn gc ∧ sv = .int .i64 (sumL (M.take m)) ∧ m ≤ M.length ∧ Aside (fitN (R - x.w) M m = fit (R - x.w) M) ∧ Aside (Pg own w wr R x (M.take m) (M.drop m).reverse (.slice qa qn qc) (.slice ga gn gc))) (fun gv _ _ => M.length - natP gv)
    case atStart =>
      refine ⟨M.length, none, 0, 0, a3, n3, c3, rfl, by rw [e0], Nat.le_refl _, ⟨rfl⟩, ⟨?_⟩⟩
      rw [List.take_length, List.drop_length]
      exact X5.it
    case round =>
      clear X5 e0
      obtain ⟨m, ga, gn, gc, qa, qn, qc, rfl, rfl, hm, F, X⟩ := hrel
      have HGN : Aside (gn = M.length - m) := ⟨by
        have := owns_len1 X.it.go
        rw [List.length_reverse, List.length_drop] at this
        exact this⟩
      have hqn : qn = m := by
        obtain ⟨a4, c4, e4, _⟩ := X.it.rd.sh
        injection e4 with _ e5 _
        rw [List.length_take] at e5
        omega
      subst hqn
      have c0 := X.it.bx.cell 0
      have c1 := X.it.bx.cell 1
      have xw := X.it.xx.cell 2
      simp only [List.getElem?_cons_zero, List.getElem?_cons_succ] at c0 c1 xw
      have s1 := sum_le LM.it qn
      have lim1 : -9223372036854775808 ≤ R - x.w := by omega
      have lim2 : R - x.w ≤ 9223372036854775807 := by omega
      by_cases hs : sumL (M.take qn) ≤ R - x.w
      · have hs' : ¬ R - x.w < sumL (M.take qn) := by omega
        have E : Aside (fit (R - x.w) M = qn) := ⟨by rw [← F.it]; exact fitN_stop hs⟩
        have FI := Aside.mk (dfirst X.it.rd R x (by rw [List.length_take]; omega))
        have x0 := X.it.xx.cell 0
        have x1 := X.it.xx.cell 1
        have x3 := X.it.xx.cell 3
        simp only [List.getElem?_cons_zero, List.getElem?_cons_succ] at x0 x1 x3
        generalize sumL (M.take qn) = S at hs hs' s1 ⊢
        have XS := Aside.mk X.it.sz
        go_upto_region 15 with fail
        go_wp2_with (first
          | (go_at_call 80; refine FI.it.mono ?_; clear FI; rintro e w7 ⟨ra, rn, rc, rfl, O7, K7⟩
             have X7 := Aside.mk (X.it.quiet K7.it)
             have z0 := X7.it.rr.cell 0
             have z1 := X7.it.rr.cell 1
             simp only [List.getElem?_cons_zero, List.getElem?_cons_succ] at z0 z1
             have h0 := X7.it.rr.frozen 0
             have h1 := X7.it.rr.frozen 1)
          | fail)
        obtain ⟨u0, u1, KF, KR⟩ := res28 w X7.it.rr (by omega) X7.it.kp R (.slice ra rn rc)
        refine bodyPost_ret (v := .tuple #[cch R (.slice ra rn rc), .slice ga gn gc, .int .i64 0]) (by simp [results, Tryd.f48, go_sem, u0, u1]) rfl ?_
        have ep : putL R L x = x :: M.take qn := by unfold putL; rw [← HM.it, E.it]
        have eg : goneX R L x = (M.drop qn).reverse := by unfold goneX; rw [← HM.it, E.it]
        rw [ep, eg]
        have xs := XS.it
        refine ⟨ra, rn, rc, ga, gn, gc, rfl, ⟨?_⟩, ⟨?_⟩, KF⟩
        · refine owns_rdN (owns_later O7.it KR.it (fun b hb e => ?_)) rfl (by omega)
          have := owns_base O7.it b hb
          omega
        · refine OwR.new (owns_base_le (owns_later X7.it.go KR.it (fun b hb e => ?_)) (by omega))
          have := owns_base X7.it.go b hb
          omega
      · have hs' : R - x.w < sumL (M.take qn) := by omega
        have hm0 : qn ≠ 0 := by
          rintro rfl
          rw [List.take_zero, sumL_nil] at hs
          omega
        obtain ⟨m, rfl⟩ : ∃ m, qn = m + 1 := ⟨qn - 1, by omega⟩
        have hlt : m < M.length := by omega
        obtain ⟨y, hy⟩ : ∃ y, M[m]? = some y := ⟨_, List.getElem?_eq_getElem hlt⟩
        have hyt : (M.take (m + 1))[m]? = some y := by rw [List.getElem?_take_of_lt (by omega)]; exact hy
        have E : Aside (fitN (R - x.w) M m = fit (R - x.w) M) := ⟨by rw [← F.it]; exact (fitN_on hs).symm⟩
        have es : sumL (M.take (m + 1)) = sumL (M.take m) + y.w := by rw [Rx_take_snoc hy, sumL_append, sumL_cons, sumL_nil, Int.add_zero]
        have s2 := sum_le LM.it m
        obtain ⟨g, c', hv, _, y0, y1, y2, y3⟩ := X.it.rd.at_ m y hyt
        injection hv with hv1 hv2 hv3
        subst hv1 hv3
        clear hv2
        have ED : Aside ((M.drop m).reverse = (M.drop (m + 1)).reverse ++ [y]) := ⟨by
          have h2 := List.getElem?_eq_some_iff.1 hy
          rw [List.drop_eq_getElem_cons h2.1, h2.2, List.reverse_cons]⟩
        have GL : ((M.drop (m + 1)).reverse).length = gn := (owns_len1 X.it.go).symm
        have hgn := HGN.it
        have OG : Aside (wr.ownsRow (w.heap.size + 1 + 1 + 1) 3 1 (.slice ga gn gc) gn (rk (M.drop (m + 1)).reverse)) := ⟨by have r := X.it.go; rw [GL] at r; exact r⟩
        have b3 : (gn + 1) * 8 ≤ 140737488355328 := by omega
        have b4 : gn + 1 ≤ maxLen := Nat.le_trans (show gn + 1 ≤ 140737488355328 by omega) (by decide)
        have XS := Aside.mk X.it.sz
        have t1 : -9223372036854775808 ≤ sumL (M.take (m + 1)) - y.w := by omega
        have t2 : sumL (M.take (m + 1)) - y.w ≤ 9223372036854775807 := by omega
        have ES : Aside (sumL (M.take (m + 1)) - y.w = sumL (M.take m)) := ⟨by omega⟩
        have HGL := Aside.mk GL
        clear hy hyt es s1 s2 hs hm0 F GL hgn
        generalize sumL (M.take (m + 1)) = S at hs' t1 t2 ES ⊢
        have hm1 : ((m : Int) + 1) - 1 = m := by omega
        go_upto_region 12 with fail
        go_upto_region 13 with (first
          | (at_builtin; refine wpList_appendR rfl _ _ 54 rfl 3 (.int .i64 0) 1 8 Tryd.underlying54 infoK rfl (by decide) wr ((Keeps.refl _ _).alloc _) (w.heap.size + 1 + 1 + 1) _ gn _ OG.it _ 1 [.int .i64 y.k] (readsK_new wr 3 [.int .i64 y.k]) rk_cells b3 b4 XS.it rfl rfl ?_
             intro v' w' o5 k5 b5
             obtain ⟨p1, p2, p3, hv'⟩ := owns_shapeK o5.it
             subst hv')
          | fail)
        have XA := Aside.mk (X.it.quiet ((Keeps.refl Nowhere wr).alloc (.cells #[.int .i64 y.k] 3)))
        have X6 := Aside.mk (XA.it.gone (L2 := (M.drop m).reverse) k5.it (by
          have r := o5.it
          rw [ED.it, rk_append, rk_one, List.length_append, HGL.it]
          exact r))
        clear c0 c1 xw y0 y1 y2 y3 o5 k5 b5 XA OG
        obtain ⟨g2, c'', hv, _, y0, y1, y2, y3⟩ := X6.it.rd.at_ m y (by rw [List.getElem?_take_of_lt (by omega)]; have := ED.it; exact (show M[m]? = some y from HYM M m y ED.it hlt))
        injection hv with hv1 hv2 hv3
        injection hv1 with hv1
        injection hv1 with hv1
        subst hv1 hv3
        clear hv2
        have c0 := X6.it.bx.cell 0
        have c1 := X6.it.bx.cell 1
        simp only [List.getElem?_cons_zero, List.getElem?_cons_succ] at c0 c1
        go_upto_region 14 with fail
        rw [ES.it]
        have tl : (M.take (m + 1)).length = m + 1 := by rw [List.length_take]; omega
        have WO := Aside.mk (dwithout X6.it.rd (i := m) R (by rw [tl]; omega) (by rw [tl]; omega))
        rw [take_erase M m hlt] at WO
        clear y0 y1 y2 y3
        go_wp2_with (first
          | (go_at_call 79; refine WO.it.mono ?_; clear WO; rintro e w8 ⟨ra, rn, rc, rfl, O8, K8⟩
             have X8 := Aside.mk (X6.it.quiet K8.it)
             have z0 := X8.it.bx.cell 0
             have z1 := X8.it.bx.cell 1
             simp only [List.getElem?_cons_zero, List.getElem?_cons_succ] at z0 z1
             have h0 := X8.it.bx.frozen 0
             have h1 := X8.it.bx.frozen 1)
          | fail)
        have p2e : p2 = M.length - m := by
          have := owns_len1 X6.it.go
          rw [List.length_reverse, List.length_drop] at this
          exact this
        have X9 := Aside.mk (X8.it.put (owns_rdN (own := own) (w := w) O8.it rfl X6.it.kp.size))
        go_roundw
        case rel => exact ⟨m, p1, p2, p3, ra, rn, rc, rfl, rfl, by omega, E, X9⟩
        case measure =>
          show M.length - p2 < M.length - gn
          have := HGN.it
          omega
end Go.Proofs.YtcmgmhdlokcgbaaDoor
