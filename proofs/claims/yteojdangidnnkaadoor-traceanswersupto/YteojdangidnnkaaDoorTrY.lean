/-
  the document's history (culvertref24): Gave
-/
import Derived.Test.YteojdangidnnkaaDoorTrX
namespace Go.Proofs.YteojdangidnnkaaDoor
open Go.RowKit Go.Maps

variable {w w' W w2 : World} {own own' : Nat → Nat} {v : Value} {U : Ds} {I : Nat → Prop} {k : Int} {d : Dr} {T : Nat} {ns : List Int} {sl : Value}
set_option maxRecDepth 20000 in
set_option maxHeartbeats 2000000 in
theorem dGave (h : RdD own w v U) (hl : U.length ≤ 1073741824) (ok : TOk T (mdl U)) (z : Int) (hr : Rd w sl ns) (hby : AreBytes ns) (hT : T ≤ 70368744177664) :
    Calls Tryd.prog 25 #[.agg #[v], .int .i64 z, sl] w fun e w' => DEnds own w (gaveL (mdl U) z ns) (gaveC (mdl U) z ns) e w' := by
  have H := Aside.mk h
  have UP := Aside.mk ok.up
  have GOK := ok.got z
  have hg := mdl_got U z
  have hk := dgot_k U z
  have hu := h.got z
  obtain ⟨d, hd⟩ : ∃ d, dgot U z = d := ⟨_, rfl⟩
  rw [hd] at hg hu hk
  rw [← hg] at GOK
  obtain ⟨W1, hW1⟩ : ∃ W1, (w.alloc (.cells #[v] 28)).alloc (.cells #[.slice none 0 0] 28) = W1 := ⟨_, rfl⟩
  have K1 : Aside (Keeps Nowhere w W1) := ⟨by rw [← hW1]; exact ((Keeps.refl _ _).alloc _).alloc _⟩
  have OF := Aside.mk (dOf (h.quiet K1.it) (by omega) z)
  rw [hd] at OF
  obtain ⟨dk, du, dr⟩ := d
  obtain ⟨uq, uc, hdu⟩ := hu.sl
  simp only at hdu hg hk hu GOK
  subst hdu
  subst hk
  obtain ⟨a, c, rfl, _⟩ := h.s
  obtain ⟨ul, hul⟩ : ∃ ul, dr.wr.length = ul := ⟨_, rfl⟩
  simp only [rowV, hul] at OF
  have HU := Aside.mk hu
  rw [hul] at HU
  have HG := Aside.mk hg
  have ST := Aside.mk (fun w2 (K2 : Keeps Nowhere W1 w2) => Dz.start w (.slice a U.length c) (w2 := w2) (by rw [hW1]; exact K2) [.int .i64 dk, .slice uq ul uc, .int .i64 ((dr.rd : Nat) : Int), .bool dr.cl, .bool dr.en])
  obtain ⟨bx, hbx⟩ : ∃ bx, w.heap.size = bx := ⟨_, rfl⟩
  rw [hbx] at ST
  have HBX := Aside.mk hbx
  have d1 : W1.cell? ⟨bx, 0, none⟩ = some (.slice a U.length c) := by
    rw [← hW1, ← hbx, ((Cells.new w _ [.slice a U.length c]).later (S := Nowhere) ((Keeps.refl _ _).alloc _) (fun x => x)).cell]; rfl
  have HUL := Aside.mk hul
  have HGO := Aside.mk GOK
  have HC1 : Aside (gaveC (mdl U) dk ns = if gaveRB dr ns then 0 else 39) := ⟨by unfold gaveC; show (if gaveRB (got (mdl U) dk) ns then _ else _) = _; rw [← hg]⟩
  have HC2 : Aside (gaveL (mdl U) dk ns = if gaveRB dr ns then tset (mdl U) dk { dr with rd := dr.rd + ns.length } else mdl U) := ⟨by unfold gaveL; show (if gaveRB (got (mdl U) dk) ns then _ else _) = _; rw [← hg]⟩
  obtain ⟨sa, sc, rfl⟩ := hr.shape
  obtain ⟨m, hm⟩ : ∃ m, ns.length = m := ⟨_, rfl⟩
  have HR := Aside.mk hr
  have HM := Aside.mk hm
  rw [hm] at HR ⊢
  have RSF := Aside.mk (fun W (kp : Keeps Nowhere w W) => dRest (h.quiet kp) (by omega) ok hT dk)
  rw [← hg] at RSF
  obtain ⟨Rn, hRn⟩ : ∃ Rn, dr.rest.length = Rn := ⟨_, rfl⟩
  rw [hRn] at RSF
  have HRn := Aside.mk hRn
  have hRb : Rn ≤ 70368744177664 := by rw [← hRn, Rc.rest_len]; have := GOK.len; omega
  have HRb : Aside (AreBytes dr.rest) := ⟨fun y hy => GOK.byte y (List.mem_of_mem_drop hy)⟩
  clear hr hm hRn
  clear h ok hu hd hul hg GOK
  go_enter Tryd.func25, Tryd.ntmps25
  go_upto_region 1 with fail
  clear hW1 hbx
  go_upto_region 2 with (first | (go_at_call 30; refine OF.it.mono ?_; rintro e w2 ⟨rfl, K2⟩) | fail)
  have DZ := Aside.mk (ST.it w2 K2.it)
  have hrb : Aside (w.heap.size ≤ w2.heap.size) := ⟨(K1.it.trans K2.it).size⟩
  have e3 : w2.alloc (.cells #[.int .i64 dk, .slice uq ul uc, .int .i64 ((dr.rd : Nat) : Int), .bool dr.cl, .bool dr.en] 59) = w2.alloc (.cells [.int .i64 dk, .slice uq ul uc, .int .i64 ((dr.rd : Nat) : Int), .bool dr.cl, .bool dr.en].toArray 59) := rfl
  rw [e3]
  generalize w2.alloc (.cells [.int .i64 dk, .slice uq ul uc, .int .i64 ((dr.rd : Nat) : Int), .bool dr.cl, .bool dr.en].toArray 59) = w3 at DZ ⊢
  generalize w2.heap.size = rb at DZ hrb ⊢
  clear ST d1 OF e3
  obtain ⟨c0, c1, c2, c3, c4⟩ := DZ.it.cells
  have r1 : w3.cell? ⟨rb, 1, none⟩ = some (.slice uq ul uc) := c3 1
  have r2 : w3.cell? ⟨rb, 2, none⟩ = some (.int .i64 ((dr.rd : Nat) : Int)) := c3 2
  have r3 : w3.cell? ⟨rb, 3, none⟩ = some (.bool dr.cl) := c3 3
  have r4 : w3.cell? ⟨rb, 4, none⟩ = some (.bool dr.en) := c3 4
  have f2 := c4 2
  have RS := Aside.mk (RSF.it w3 DZ.it.k)
  clear RSF c3 c4
  go_upto_region 3 with (first | (go_at_call 23; refine RS.it.mono ?_; rintro e w4 ⟨q4, c4, rfl, R4, K4⟩) | fail)
  have D4 := Aside.mk (DZ.it.quiet K4.it)
  have HR4 := Aside.mk (HR.it.later (DZ.it.k.trans K4.it).bel)
  have RD4 : Aside (Rd w4 (.slice q4 Rn c4) dr.rest) := ⟨OwnB.rd R4.it⟩
  clear RS c0 c1 c2 r1 r2 r3 r4 f2
  by_cases hlt : Rn < m
  · have gb : Aside (gaveRB dr ns = false) := ⟨by unfold gaveRB; rw [HM.it, HRn.it, decide_eq_false (by omega), Bool.false_and]⟩
    have dd : (Rn : Int) < (m : Int) := by omega
    have FN := Aside.mk (D4.it.fin (by have := HBX.it; omega) (.slice a U.length c))
    obtain ⟨c0, c1, c2, _, _⟩ := D4.it.cells
    go_wp2_with fail
    have y0 := FN.it.2
    refine bodyPost_ret (v := .tuple #[.agg #[.slice a U.length c], .int .i64 39]) (by simp [results, Tryd.f25, go_sem, y0]) rfl ?_
    exact ⟨_, _, _, U, by rw [HC1.it, gb.it]; try rfl, ⟨H.it.step FN.it.1 9, by rw [HC2.it, gb.it]; try rfl⟩, ⟨FN.it.1⟩⟩
  · have dd : ¬ (Rn : Int) < (m : Int) := by omega
    have hmm : (m : Int) ≤ 70368744177664 := by omega
    go_upto_region 6 with fail
    go_loopw [11] (fun iv wr => ∃ j : Nat, iv = .int .i64 j ∧ j ≤ m ∧ Aside (Keeps Nowhere w4 wr ∧ dr.rest.take j = ns.take j)) (fun iv _ => m - natOfT iv)
    case atStart => exact ⟨0, rfl, Nat.zero_le _, ⟨Keeps.refl _ _, rfl⟩⟩
    case round =>
      obtain ⟨j, rfl, hj, KJ⟩ := hrel
      have D5 := Aside.mk (D4.it.quiet KJ.it.1)
      rcases Nat.eq_or_lt_of_le hj with rfl | hjl
      · have gb : Aside (gaveRB dr ns = true) := ⟨by
          unfold gaveRB
          rw [HM.it, HRn.it, decide_eq_true (by omega), Bool.true_and, decide_eq_true_eq, KJ.it.2]
          exact List.take_of_length_le (by rw [HM.it]; exact Nat.le_refl _)⟩
        obtain ⟨rd, hrd⟩ : ∃ rd, dr.rd = rd := ⟨_, rfl⟩
        have hrb2 : rd ≤ 70368744177664 := by have := HGO.it.rd; have := HGO.it.len; omega
        have s1 : (rd : Int) + (j : Int) ≤ 9223372036854775807 := by omega
        have s0 : (0 : Int) ≤ (rd : Int) + (j : Int) := by omega
        have D6 := Aside.mk (D5.it.put hrb.it 2 (.int .i64 ((rd : Int) + (j : Int))))
        have x2 : wr.cell? ⟨rb, 2, none⟩ = some (.int .i64 (rd : Int)) := by rw [← hrd]; exact D5.it.cells.2.2.2.1 2
        have x3 := D5.it.cells.2.2.2.2 2
        have HRD := Aside.mk hrd
        clear hrd
        go_upto_region 11 with fail
        clear x2 x3
        generalize wr.setCell ⟨rb, 2, none⟩ (.int .i64 ((rd : Int) + (j : Int))) = w6 at D6 ⊢
        have e9 : ((((rd + j : Nat)) : Nat) : Int) = (rd : Int) + (j : Int) := by omega
        have WT := Aside.mk (dWith (own := give own w.heap.size 8) (d := ⟨dk, .slice uq ul uc, ⟨dr.wr, rd + j, dr.cl, dr.en⟩⟩) (H.it.step D6.it.k 8) hl UP.it (HU.it.sn (I := fun _ => False) (Sn.quiet D6.it.k 8) (fun x => x)))
        simp only [rowV, e9] at WT
        obtain ⟨c0, c1, c2, c3, c4⟩ := D6.it.cells
        have r0 : w6.cell? ⟨rb, 0, none⟩ = some (.int .i64 dk) := c3 0
        have r1 : w6.cell? ⟨rb, 1, none⟩ = some (.slice uq ul uc) := c3 1
        have r2 : w6.cell? ⟨rb, 2, none⟩ = some (.int .i64 ((rd : Int) + (j : Int))) := c3 2
        have r3 : w6.cell? ⟨rb, 3, none⟩ = some (.bool dr.cl) := c3 3
        have r4 : w6.cell? ⟨rb, 4, none⟩ = some (.bool dr.en) := c3 4
        clear c3 c4
        go_wp2_with (first | (go_at_call 42; refine WT.it.mono ?_; rintro e w7 ⟨q7, l7, c7, rfl, R7, K7⟩
                              have D7 := Aside.mk (D6.it.quiet K7.it)
                              obtain ⟨x0, x1, x2, _, _⟩ := D7.it.cells) | fail)
        have FN := Aside.mk (D7.it.fin (by have := HBX.it; omega) (.slice q7 l7 c7))
        have y0 := FN.it.2
        refine bodyPost_ret (v := .tuple #[.agg #[.slice q7 l7 c7], .int .i64 0]) (by simp [results, Tryd.f25, go_sem, y0]) rfl ?_
        exact ⟨_, _, _, _, by rw [HC1.it, gb.it]; rfl, ⟨with_fin R7.it D6.it (give_new (by have := HBX.it; omega)) (lab8 _ _), by rw [HC2.it, gb.it, mdl_set, HM.it, HRD.it]; rfl⟩, ⟨FN.it.1⟩⟩
      · obtain ⟨x, hx⟩ : ∃ x, ns[j]? = some x := ⟨_, List.getElem?_eq_getElem (by rw [HM.it]; exact hjl)⟩
        obtain ⟨y, hy⟩ : ∃ y, dr.rest[j]? = some y := ⟨_, List.getElem?_eq_getElem (by rw [HRn.it]; omega)⟩
        obtain ⟨g1, o1, c1', e1, _, hc1⟩ := (HR4.it.later KJ.it.1.bel).at (by rintro rfl; simp at hx)
        obtain ⟨g2, o2, c2', e2, _, hc2⟩ := (RD4.it.later KJ.it.1.bel).at (by intro e; rw [e] at hy; simp at hy)
        injection e1 with e1 _ _
        injection e2 with e2 _ _
        subst e1 e2
        have u1 : wr.cell? ⟨g1, o1 + j, none⟩ = some (.int .u8 x) := hc1 j _ (by simp [bv, hx])
        have u2 : wr.cell? ⟨g2, o2 + j, none⟩ = some (.int .u8 y) := hc2 j _ (by simp [bv, hy])
        have s3 : (j : Int) < (m : Int) := by omega
        have s4 : (j : Int) < (Rn : Int) := by omega
        have HXY := Aside.mk (And.intro hx hy)
        clear hc1 hc2 hx hy
        by_cases hxy : x = y
        · have q1 : (x != y) = false := by simp [hxy]
          have NX : Aside (dr.rest.take (j + 1) = ns.take (j + 1)) := ⟨by rw [List.take_add_one, List.take_add_one, KJ.it.2, HXY.it.1, HXY.it.2, hxy]⟩
          clear hxy
          go_upto_region 8 with fail
          go_quiet (fail)
          go_wp2_with fail
          go_roundw
          case rel => exact ⟨j + 1, by go_num, by omega, ⟨KJ.it.1.trans ((Keeps.refl _ _).drewN _), NX.it⟩⟩
          case measure => simp [natOfT]; omega
        · have q1 : (x != y) = true := by simp [hxy]
          have gb : Aside (gaveRB dr ns = false) := ⟨by
            unfold gaveRB
            rw [Bool.and_eq_false_iff]
            refine .inr (decide_eq_false (fun e => hxy ?_))
            have h1 : (dr.rest.take ns.length)[j]? = ns[j]? := by rw [e]
            rw [List.getElem?_take, if_pos (by rw [HM.it]; exact hjl), HXY.it.1, HXY.it.2] at h1
            injection h1 with h1
            exact h1.symm⟩
          clear hxy
          go_upto_region 8 with fail
          go_cut [41] (fun t wx => t = .bool true ∧ Aside (Keeps Nowhere w4 wx))
          case first =>
            go_quiet (fail)
            go_wp2_with fail
            go_meet
            exact ⟨rfl, ⟨KJ.it.1.trans ((Keeps.refl _ _).drewN _)⟩⟩
          case rest =>
            obtain ⟨rfl, KX⟩ := hcut
            have D6 := Aside.mk (D4.it.quiet KX.it)
            clear u1 u2
            have FN := Aside.mk (D6.it.fin (by have := HBX.it; omega) (.slice a U.length c))
            obtain ⟨c0, c1, c2, _, _⟩ := D6.it.cells
            go_wp2_with fail
            have y0 := FN.it.2
            refine bodyPost_ret (v := .tuple #[.agg #[.slice a U.length c], .int .i64 39]) (by simp [results, Tryd.f25, go_sem, y0]) rfl ?_
            exact ⟨_, _, _, U, by rw [HC1.it, gb.it]; try rfl, ⟨H.it.step FN.it.1 9, by rw [HC2.it, gb.it]; try rfl⟩, ⟨FN.it.1⟩⟩
end Go.Proofs.YteojdangidnnkaaDoor
