/-
  the document's history (culvertref24): Wrote, Closed, Ended
-/
import Derived.Test.YteojdangidnnkaaDoorTrW
namespace Go.Proofs.YteojdangidnnkaaDoor
open Go.RowKit Go.Maps

variable {w w' W w2 : World} {own own' : Nat → Nat} {v : Value} {U : Ds} {I : Nat → Prop} {k : Int} {d : Dr} {T : Nat} {ns : List Int} {sl : Value}
theorem mdl_up (ok : TOk T (mdl U)) : (tk (mdl U)).Pairwise (· < ·) := ok.up
/-- what a call of the document's leaves -/
def DEnds (own : Nat → Nat) (w : World) (L' : Hs) (code : Int) (e : Ending) (w' : World) : Prop := ∃ q l c U', e = .returned (.tuple #[.agg #[.slice q l c], .int .i64 code]) ∧ Aside (RdD (give own w.heap.size 9) w' (.slice q l c) U' ∧ mdl U' = L') ∧ Aside (Keeps Nowhere w w')
theorem RdO.lab {j : Nat} {own2 : Nat → Nat} {u : Value} (h : RdO own j w u ns) (he : ∀ g, own g = j → own2 g = j) : RdO own2 j w u ns := ⟨h.1, fun g hg => ⟨(h.2 g hg).1, he g (h.2 g hg).2⟩⟩
theorem RdD.lab {own2 : Nat → Nat} (h : RdD own w v U) (he : ∀ g, own g = 9 → own2 g = 9) : RdD own2 w v U := by
  obtain ⟨a, c, e, hl, hc⟩ := h.s
  refine ⟨⟨a, c, e, hl, fun j x hj => ?_⟩, fun d hd => (h.b d hd).lab he⟩
  obtain ⟨g, ea, ho, hr⟩ := hc j x hj
  exact ⟨g, ea, he g ho, hr⟩
/-- the rows that 'with' made, behind the answer's writing -/
theorem with_fin {bx rb : Nat} {cs : List Value} {w4 w5 : World} {V : Ds} {v5 x : Value} {own1 : Nat → Nat} (h : RdD (give own1 w4.heap.size 9) w5 v5 V) (D4 : Dz w bx rb v cs w4) (h8 : own1 (bx + 1) = 8) (h9 : ∀ g, own1 g = 9 → give own w.heap.size 9 g = 9) : RdD (give own w.heap.size 9) (w5.setCell ⟨bx + 1, 0, none⟩ x) v5 V := by
  have hlt := D4.a.lt
  have e8 : give own1 w4.heap.size 9 (bx + 1) = 8 := by rw [give_old hlt]; exact h8
  have s8 : Sn (fun k => k = 8) (give own1 w4.heap.size 9) w5 (give own1 w4.heap.size 9) (w5.setCell ⟨bx + 1, 0, none⟩ x) := ⟨fun _ _ => rfl, (Keeps.refl _ _).setCell _ _ (fun _ => e8)⟩
  refine (h.sn s8 (by decide)).lab (fun g hg => ?_)
  by_cases h1 : g < w4.heap.size
  · rw [give_old h1] at hg
    exact h9 g hg
  · have := D4.k.size
    exact give_new (by omega)
theorem lab8 (own : Nat → Nat) (n : Nat) : ∀ g, give own n 8 g = 9 → give own n 9 g = 9 := fun g hg => by
  by_cases h : g < n
  · rw [give_old h] at hg ⊢; exact hg
  · rw [give_new (by omega)] at hg; cases hg
theorem lab89 (own : Nat → Nat) {n m : Nat} (hm : n ≤ m) : ∀ g, give (give own n 8) m 9 g = 9 → give own n 9 g = 9 := fun g hg => by
  by_cases h : g < m
  · rw [give_old h] at hg; exact lab8 own n g hg
  · exact give_new (by omega)
set_option maxRecDepth 20000 in
set_option maxHeartbeats 2000000 in
theorem dClosed (h : RdD own w v U) (hl : U.length ≤ 1073741824) (ok : TOk T (mdl U)) (z : Int) :
    Calls Tryd.prog 28 #[.agg #[v], .int .i64 z] w fun e w' => DEnds own w (closedL (mdl U) z) (wroteC (mdl U) z) e w' := by
  have H := Aside.mk h
  have UP := Aside.mk ok.up
  have GOK := ok.got z
  have hg := mdl_got U z
  have hk := dgot_k U z
  have hu := h.got z
  obtain ⟨d, hd⟩ : ∃ d, dgot U z = d := ⟨_, rfl⟩
  rw [hd] at hg hu hk
  rw [← hg] at GOK
  obtain ⟨W1, hW1⟩ : ∃ W1, (w.alloc (.cells #[v] 28)).alloc (.cells #[.slice none 0 0] 28) = W1 := ⟨_, rfl⟩
  have K1 : Aside (Keeps Nowhere w W1) := ⟨by rw [← hW1]; exact ((Keeps.refl _ _).alloc _).alloc _⟩
  have OF := Aside.mk (dOf (h.quiet K1.it) (by omega) z)
  rw [hd] at OF
  obtain ⟨dk, du, dr⟩ := d
  obtain ⟨uq, uc, hdu⟩ := hu.sl
  simp only at hdu hg hk hu GOK
  subst hdu
  subst hk
  obtain ⟨a, c, rfl, _⟩ := h.s
  obtain ⟨ul, hul⟩ : ∃ ul, dr.wr.length = ul := ⟨_, rfl⟩
  simp only [rowV, hul] at OF
  have HU := Aside.mk hu
  rw [hul] at HU
  have HG := Aside.mk hg
  have ST := Aside.mk (fun w2 (K2 : Keeps Nowhere W1 w2) => Dz.start w (.slice a U.length c) (w2 := w2) (by rw [hW1]; exact K2) [.int .i64 dk, .slice uq ul uc, .int .i64 ((dr.rd : Nat) : Int), .bool dr.cl, .bool dr.en])
  obtain ⟨bx, hbx⟩ : ∃ bx, w.heap.size = bx := ⟨_, rfl⟩
  rw [hbx] at ST
  have HBX := Aside.mk hbx
  have d1 : W1.cell? ⟨bx, 0, none⟩ = some (.slice a U.length c) := by
    rw [← hW1, ← hbx, ((Cells.new w _ [.slice a U.length c]).later (S := Nowhere) ((Keeps.refl _ _).alloc _) (fun x => x)).cell]; rfl
  have HUL := Aside.mk hul
  have HGO := Aside.mk GOK
  have HC1 : Aside (wroteC (mdl U) dk = if dr.cl then 24 else 0) := ⟨by unfold wroteC; rw [← hg]⟩
  have HC2 : Aside (closedL (mdl U) dk = if dr.cl then mdl U else tset (mdl U) dk { dr with cl := true }) := ⟨by unfold closedL; rw [← hg]⟩
  clear h ok hu hd hul hg GOK
  go_enter Tryd.func28, Tryd.ntmps28
  go_upto_region 1 with fail
  clear hW1 hbx
  go_upto_region 2 with (first | (go_at_call 30; refine OF.it.mono ?_; rintro e w2 ⟨rfl, K2⟩) | fail)
  have DZ := Aside.mk (ST.it w2 K2.it)
  have hrb : Aside (w.heap.size ≤ w2.heap.size) := ⟨(K1.it.trans K2.it).size⟩
  have e3 : w2.alloc (.cells #[.int .i64 dk, .slice uq ul uc, .int .i64 ((dr.rd : Nat) : Int), .bool dr.cl, .bool dr.en] 59) = w2.alloc (.cells [.int .i64 dk, .slice uq ul uc, .int .i64 ((dr.rd : Nat) : Int), .bool dr.cl, .bool dr.en].toArray 59) := rfl
  rw [e3]
  generalize w2.alloc (.cells [.int .i64 dk, .slice uq ul uc, .int .i64 ((dr.rd : Nat) : Int), .bool dr.cl, .bool dr.en].toArray 59) = w3 at DZ ⊢
  generalize w2.heap.size = rb at DZ hrb ⊢
  clear ST d1 OF e3
  obtain ⟨c0, c1, c2, c3, c4⟩ := DZ.it.cells
  have r1 : w3.cell? ⟨rb, 1, none⟩ = some (.slice uq ul uc) := c3 1
  have r2 : w3.cell? ⟨rb, 2, none⟩ = some (.int .i64 ((dr.rd : Nat) : Int)) := c3 2
  have r3 : w3.cell? ⟨rb, 3, none⟩ = some (.bool dr.cl) := c3 3
  have r4 : w3.cell? ⟨rb, 4, none⟩ = some (.bool dr.en) := c3 4
  have f3 := c4 3
  cases hcl : dr.cl with
  | true =>
    rw [hcl] at r3 HC1 HC2
    have FN := Aside.mk (DZ.it.fin (by have := HBX.it; omega) (.slice a U.length c))
    clear c3 c4 hcl
    go_wp2_with fail
    have y0 := FN.it.2
    refine bodyPost_ret (v := .tuple #[.agg #[.slice a U.length c], .int .i64 24]) (by simp [results, Tryd.f28, go_sem, y0]) rfl ?_
    exact ⟨_, _, _, U, by rw [HC1.it]; try rfl, ⟨H.it.step FN.it.1 9, by rw [HC2.it]; try rfl⟩, ⟨FN.it.1⟩⟩
  | false =>
    rw [hcl] at r3 HC1 HC2
    have D4 := Aside.mk (DZ.it.put hrb.it 3 (.bool true))
    rw [hcl] at D4
    clear hcl c3 c4
    go_upto_region 5 with fail
    clear c0 c1 c2 r1 r2 r3 r4 f3
    generalize w3.setCell ⟨rb, 3, none⟩ (.bool true) = w4 at D4 ⊢
    have WT := Aside.mk (dWith (own := give own w.heap.size 8) (d := ⟨dk, .slice uq ul uc, { dr with cl := true }⟩) (H.it.step D4.it.k 8) hl UP.it (HU.it.sn (I := fun _ => False) (Sn.quiet D4.it.k 8) (fun x => x)))
    simp only [rowV] at WT
    obtain ⟨c0, c1, c2, c3, c4⟩ := D4.it.cells
    have r0 : w4.cell? ⟨rb, 0, none⟩ = some (.int .i64 dk) := c3 0
    have r1 : w4.cell? ⟨rb, 1, none⟩ = some (.slice uq ul uc) := c3 1
    have r2 : w4.cell? ⟨rb, 2, none⟩ = some (.int .i64 ((dr.rd : Nat) : Int)) := c3 2
    have r3 : w4.cell? ⟨rb, 3, none⟩ = some (.bool true) := c3 3
    have r4 : w4.cell? ⟨rb, 4, none⟩ = some (.bool dr.en) := c3 4
    clear c3 c4
    go_wp2_with (first | (go_at_call 42; refine WT.it.mono ?_; rintro e w7 ⟨q7, l7, c7, rfl, R7, K7⟩
                          have D7 := Aside.mk (D4.it.quiet K7.it)
                          obtain ⟨x0, x1, x2, _, _⟩ := D7.it.cells) | fail)
    have FN := Aside.mk (D7.it.fin (by have := HBX.it; omega) (.slice q7 l7 c7))
    have y0 := FN.it.2
    refine bodyPost_ret (v := .tuple #[.agg #[.slice q7 l7 c7], .int .i64 0]) (by simp [results, Tryd.f28, go_sem, y0]) rfl ?_
    exact ⟨_, _, _, _, by rw [HC1.it]; try rfl, ⟨with_fin R7.it D4.it (give_new (by have := HBX.it; omega)) (lab8 _ _), by rw [HC2.it, mdl_set]; rfl⟩, ⟨FN.it.1⟩⟩
set_option maxRecDepth 20000 in
set_option maxHeartbeats 2000000 in
theorem dEnded (h : RdD own w v U) (hl : U.length ≤ 1073741824) (ok : TOk T (mdl U)) (z : Int) :
    Calls Tryd.prog 29 #[.agg #[v], .int .i64 z] w fun e w' => DEnds own w (endedL (mdl U) z) (endedC (mdl U) z) e w' := by
  have H := Aside.mk h
  have UP := Aside.mk ok.up
  have GOK := ok.got z
  have hg := mdl_got U z
  have hk := dgot_k U z
  have hu := h.got z
  obtain ⟨d, hd⟩ : ∃ d, dgot U z = d := ⟨_, rfl⟩
  rw [hd] at hg hu hk
  rw [← hg] at GOK
  obtain ⟨W1, hW1⟩ : ∃ W1, (w.alloc (.cells #[v] 28)).alloc (.cells #[.slice none 0 0] 28) = W1 := ⟨_, rfl⟩
  have K1 : Aside (Keeps Nowhere w W1) := ⟨by rw [← hW1]; exact ((Keeps.refl _ _).alloc _).alloc _⟩
  have OF := Aside.mk (dOf (h.quiet K1.it) (by omega) z)
  rw [hd] at OF
  obtain ⟨dk, du, dr⟩ := d
  obtain ⟨uq, uc, hdu⟩ := hu.sl
  simp only at hdu hg hk hu GOK
  subst hdu
  subst hk
  obtain ⟨a, c, rfl, _⟩ := h.s
  obtain ⟨ul, hul⟩ : ∃ ul, dr.wr.length = ul := ⟨_, rfl⟩
  simp only [rowV, hul] at OF
  have HU := Aside.mk hu
  rw [hul] at HU
  have HG := Aside.mk hg
  have ST := Aside.mk (fun w2 (K2 : Keeps Nowhere W1 w2) => Dz.start w (.slice a U.length c) (w2 := w2) (by rw [hW1]; exact K2) [.int .i64 dk, .slice uq ul uc, .int .i64 ((dr.rd : Nat) : Int), .bool dr.cl, .bool dr.en])
  obtain ⟨bx, hbx⟩ : ∃ bx, w.heap.size = bx := ⟨_, rfl⟩
  rw [hbx] at ST
  have HBX := Aside.mk hbx
  have d1 : W1.cell? ⟨bx, 0, none⟩ = some (.slice a U.length c) := by
    rw [← hW1, ← hbx, ((Cells.new w _ [.slice a U.length c]).later (S := Nowhere) ((Keeps.refl _ _).alloc _) (fun x => x)).cell]; rfl
  have HUL := Aside.mk hul
  have HGO := Aside.mk GOK
  have HE : Aside (endedB (mdl U) dk = (dr.cl && decide (dr.rd = dr.wr.length))) := ⟨by unfold endedB; rw [← hg]⟩
  have HC1 : Aside (endedC (mdl U) dk = if endedB (mdl U) dk then 0 else 39) := ⟨rfl⟩
  have HC2 : Aside (endedL (mdl U) dk = if endedB (mdl U) dk then tset (mdl U) dk { dr with en := true } else mdl U) := ⟨by unfold endedL; rw [← hg]⟩
  clear h ok hu hd hul hg GOK
  go_enter Tryd.func29, Tryd.ntmps29
  go_upto_region 1 with fail
  clear hW1 hbx
  go_upto_region 2 with (first | (go_at_call 30; refine OF.it.mono ?_; rintro e w2 ⟨rfl, K2⟩) | fail)
  have DZ := Aside.mk (ST.it w2 K2.it)
  have hrb : Aside (w.heap.size ≤ w2.heap.size) := ⟨(K1.it.trans K2.it).size⟩
  have e3 : w2.alloc (.cells #[.int .i64 dk, .slice uq ul uc, .int .i64 ((dr.rd : Nat) : Int), .bool dr.cl, .bool dr.en] 59) = w2.alloc (.cells [.int .i64 dk, .slice uq ul uc, .int .i64 ((dr.rd : Nat) : Int), .bool dr.cl, .bool dr.en].toArray 59) := rfl
  rw [e3]
  generalize w2.alloc (.cells [.int .i64 dk, .slice uq ul uc, .int .i64 ((dr.rd : Nat) : Int), .bool dr.cl, .bool dr.en].toArray 59) = w3 at DZ ⊢
  generalize w2.heap.size = rb at DZ hrb ⊢
  clear ST d1 OF e3
  obtain ⟨c0, c1, c2, c3, c4⟩ := DZ.it.cells
  have r1 : w3.cell? ⟨rb, 1, none⟩ = some (.slice uq ul uc) := c3 1
  have r2 : w3.cell? ⟨rb, 2, none⟩ = some (.int .i64 ((dr.rd : Nat) : Int)) := c3 2
  have r3 : w3.cell? ⟨rb, 3, none⟩ = some (.bool dr.cl) := c3 3
  have r4 : w3.cell? ⟨rb, 4, none⟩ = some (.bool dr.en) := c3 4
  have f4 := c4 4
  cases hcl : dr.cl with
  | false =>
    rw [hcl] at r3
    rw [HE.it, hcl] at HC1 HC2
    have FN := Aside.mk (DZ.it.fin (by have := HBX.it; omega) (.slice a U.length c))
    clear c3 c4 hcl
    go_wp2_with fail
    have y0 := FN.it.2
    refine bodyPost_ret (v := .tuple #[.agg #[.slice a U.length c], .int .i64 39]) (by simp [results, Tryd.f29, go_sem, y0]) rfl ?_
    exact ⟨_, _, _, U, by rw [HC1.it]; try rfl, ⟨H.it.step FN.it.1 9, by rw [HC2.it]; try rfl⟩, ⟨FN.it.1⟩⟩
  | true =>
    rw [hcl] at r3
    rw [HE.it, hcl, HUL.it, Bool.true_and] at HC1 HC2
    obtain ⟨rd, hrd⟩ : ∃ rd, dr.rd = rd := ⟨_, rfl⟩
    have hle : rd ≤ ul := by have := HGO.it.rd; have := HUL.it; omega
    rw [hrd] at HC1 HC2 r2
    by_cases heq : rd = ul
    · simp only [heq, decide_true, if_true] at HC1 HC2
      have d9 : decide ((rd : Int) < (ul : Int)) = false := decide_eq_false (by omega)
      have d10 : ¬ (rd : Int) < (ul : Int) := by omega
      have D4 := Aside.mk (DZ.it.put hrb.it 4 (.bool true))
      rw [hcl, hrd] at D4
      have HRD := Aside.mk (And.intro heq hcl)
      clear hcl c3 c4 heq hle hrd
      go_upto_region 5 with fail
      clear c0 c1 c2 r1 r2 r3 r4 f4
      generalize w3.setCell ⟨rb, 4, none⟩ (.bool true) = w4 at D4 ⊢
      have WT := Aside.mk (dWith (own := give own w.heap.size 8) (d := ⟨dk, .slice uq ul uc, ⟨dr.wr, rd, true, true⟩⟩) (H.it.step D4.it.k 8) hl UP.it (HU.it.sn (I := fun _ => False) (Sn.quiet D4.it.k 8) (fun x => x)))
      simp only [rowV] at WT
      obtain ⟨c0, c1, c2, c3, c4⟩ := D4.it.cells
      have r0 : w4.cell? ⟨rb, 0, none⟩ = some (.int .i64 dk) := c3 0
      have r1 : w4.cell? ⟨rb, 1, none⟩ = some (.slice uq ul uc) := c3 1
      have r2 : w4.cell? ⟨rb, 2, none⟩ = some (.int .i64 rd) := c3 2
      have r3 : w4.cell? ⟨rb, 3, none⟩ = some (.bool true) := c3 3
      have r4 : w4.cell? ⟨rb, 4, none⟩ = some (.bool true) := c3 4
      clear c3 c4
      go_wp2_with (first | (go_at_call 42; refine WT.it.mono ?_; rintro e w7 ⟨q7, l7, c7, rfl, R7, K7⟩
                            have D7 := Aside.mk (D4.it.quiet K7.it)
                            obtain ⟨x0, x1, x2, _, _⟩ := D7.it.cells) | fail)
      have FN := Aside.mk (D7.it.fin (by have := HBX.it; omega) (.slice q7 l7 c7))
      have y0 := FN.it.2
      refine bodyPost_ret (v := .tuple #[.agg #[.slice q7 l7 c7], .int .i64 0]) (by simp [results, Tryd.f29, go_sem, y0]) rfl ?_
      exact ⟨_, _, _, _, by rw [HC1.it]; try rfl, ⟨with_fin R7.it D4.it (give_new (by have := HBX.it; omega)) (lab8 _ _), by rw [HC2.it, mdl_set]; simp [HRD.it.1]⟩, ⟨FN.it.1⟩⟩
    · have e9 : decide (rd = ul) = false := decide_eq_false heq
      simp only [e9, Bool.false_eq_true, if_false] at HC1 HC2
      have d9 : decide ((rd : Int) < (ul : Int)) = true := decide_eq_true (by omega)
      have d10 : (rd : Int) < (ul : Int) := by omega
      clear heq hle hrd
      have FN := Aside.mk (DZ.it.fin (by have := HBX.it; omega) (.slice a U.length c))
      clear c3 c4 hcl
      go_wp2_with fail
      have y0 := FN.it.2
      refine bodyPost_ret (v := .tuple #[.agg #[.slice a U.length c], .int .i64 39]) (by simp [results, Tryd.f29, go_sem, y0]) rfl ?_
      exact ⟨_, _, _, U, by rw [HC1.it]; try rfl, ⟨H.it.step FN.it.1 9, by rw [HC2.it]; try rfl⟩, ⟨FN.it.1⟩⟩
set_option maxRecDepth 20000 in
set_option maxHeartbeats 2000000 in
theorem dWrote (h : RdD own w v U) (hl : U.length ≤ 1073741824) (ok : TOk T (mdl U)) (z : Int) (hr : Rd w sl ns) (hT : T + ns.length ≤ 70368744177664) :
    Calls Tryd.prog 24 #[.agg #[v], .int .i64 z, sl] w fun e w' => DEnds own w (wroteL (mdl U) z ns) (wroteC (mdl U) z) e w' := by
  have H := Aside.mk h
  have UP := Aside.mk ok.up
  have GOK := ok.got z
  have hg := mdl_got U z
  have hk := dgot_k U z
  have hu := h.got z
  obtain ⟨d, hd⟩ : ∃ d, dgot U z = d := ⟨_, rfl⟩
  rw [hd] at hg hu hk
  rw [← hg] at GOK
  obtain ⟨W1, hW1⟩ : ∃ W1, (w.alloc (.cells #[v] 28)).alloc (.cells #[.slice none 0 0] 28) = W1 := ⟨_, rfl⟩
  have K1 : Aside (Keeps Nowhere w W1) := ⟨by rw [← hW1]; exact ((Keeps.refl _ _).alloc _).alloc _⟩
  have OF := Aside.mk (dOf (h.quiet K1.it) (by omega) z)
  rw [hd] at OF
  obtain ⟨dk, du, dr⟩ := d
  obtain ⟨uq, uc, hdu⟩ := hu.sl
  simp only at hdu hg hk hu GOK
  subst hdu
  subst hk
  obtain ⟨a, c, rfl, _⟩ := h.s
  obtain ⟨ul, hul⟩ : ∃ ul, dr.wr.length = ul := ⟨_, rfl⟩
  simp only [rowV, hul] at OF
  have HU := Aside.mk hu
  rw [hul] at HU
  have HG := Aside.mk hg
  have ST := Aside.mk (fun w2 (K2 : Keeps Nowhere W1 w2) => Dz.start w (.slice a U.length c) (w2 := w2) (by rw [hW1]; exact K2) [.int .i64 dk, .slice uq ul uc, .int .i64 ((dr.rd : Nat) : Int), .bool dr.cl, .bool dr.en])
  obtain ⟨bx, hbx⟩ : ∃ bx, w.heap.size = bx := ⟨_, rfl⟩
  rw [hbx] at ST
  have HBX := Aside.mk hbx
  have d1 : W1.cell? ⟨bx, 0, none⟩ = some (.slice a U.length c) := by
    rw [← hW1, ← hbx, ((Cells.new w _ [.slice a U.length c]).later (S := Nowhere) ((Keeps.refl _ _).alloc _) (fun x => x)).cell]; rfl
  have HUL := Aside.mk hul
  have HGO := Aside.mk GOK
  have HC1 : Aside (wroteC (mdl U) dk = if dr.cl then 24 else 0) := ⟨by unfold wroteC; rw [← hg]⟩
  have HC2 : Aside (wroteL (mdl U) dk ns = if dr.cl then mdl U else tset (mdl U) dk { dr with wr := dr.wr ++ ns }) := ⟨by unfold wroteL; rw [← hg]⟩
  obtain ⟨sa, sc, rfl⟩ := hr.shape
  obtain ⟨m, hm⟩ : ∃ m, ns.length = m := ⟨_, rfl⟩
  have HR := Aside.mk hr
  have HM := Aside.mk hm
  rw [hm] at HR ⊢
  have hub : Aside (ul + m ≤ 70368744177664) := ⟨by have := GOK.len; omega⟩
  clear hr hm
  clear h ok hu hd hul hg GOK
  go_enter Tryd.func24, Tryd.ntmps24
  go_upto_region 1 with fail
  clear hW1 hbx
  go_upto_region 2 with (first | (go_at_call 30; refine OF.it.mono ?_; rintro e w2 ⟨rfl, K2⟩) | fail)
  have DZ := Aside.mk (ST.it w2 K2.it)
  have hrb : Aside (w.heap.size ≤ w2.heap.size) := ⟨(K1.it.trans K2.it).size⟩
  have e3 : w2.alloc (.cells #[.int .i64 dk, .slice uq ul uc, .int .i64 ((dr.rd : Nat) : Int), .bool dr.cl, .bool dr.en] 59) = w2.alloc (.cells [.int .i64 dk, .slice uq ul uc, .int .i64 ((dr.rd : Nat) : Int), .bool dr.cl, .bool dr.en].toArray 59) := rfl
  rw [e3]
  generalize w2.alloc (.cells [.int .i64 dk, .slice uq ul uc, .int .i64 ((dr.rd : Nat) : Int), .bool dr.cl, .bool dr.en].toArray 59) = w3 at DZ ⊢
  generalize w2.heap.size = rb at DZ hrb ⊢
  clear ST d1 OF e3
  obtain ⟨c0, c1, c2, c3, c4⟩ := DZ.it.cells
  have r1 : w3.cell? ⟨rb, 1, none⟩ = some (.slice uq ul uc) := c3 1
  have r2 : w3.cell? ⟨rb, 2, none⟩ = some (.int .i64 ((dr.rd : Nat) : Int)) := c3 2
  have r3 : w3.cell? ⟨rb, 3, none⟩ = some (.bool dr.cl) := c3 3
  have r4 : w3.cell? ⟨rb, 4, none⟩ = some (.bool dr.en) := c3 4
  have f1 := c4 1
  cases hcl : dr.cl with
  | true =>
    rw [hcl] at r3 HC1 HC2
    have FN := Aside.mk (DZ.it.fin (by have := HBX.it; omega) (.slice a U.length c))
    clear c3 c4 hcl
    go_wp2_with fail
    have y0 := FN.it.2
    refine bodyPost_ret (v := .tuple #[.agg #[.slice a U.length c], .int .i64 24]) (by simp [results, Tryd.f24, go_sem, y0]) rfl ?_
    exact ⟨_, _, _, U, by rw [HC1.it]; try rfl, ⟨H.it.step FN.it.1 9, by rw [HC2.it]; try rfl⟩, ⟨FN.it.1⟩⟩
  | false =>
    rw [hcl] at r3 HC1 HC2
    have KA : Keeps Nowhere w3 (w3.alloc (.cells #[] 5)) := (Keeps.refl _ _).alloc _
    have DA := DZ.it.quiet KA
    have r1' : (w3.alloc (.cells #[] 5)).cell? ⟨rb, 1, none⟩ = some (.slice uq ul uc) := DA.cells.2.2.2.1 1
    have OM := Aside.mk (own_made w3)
    have bd : Aside (([] : List Int).length + dr.wr.length ≤ 140737488355328) := ⟨by rw [HUL.it]; simp; have := hub.it; omega⟩
    have bd2 : Aside (([] ++ dr.wr).length + ns.length ≤ 140737488355328) := ⟨by rw [List.nil_append, HUL.it, HM.it]; have := hub.it; omega⟩
    have hsz : Aside (w3.heap.size ≤ (w3.alloc (.cells #[] 5)).heap.size) := ⟨KA.size⟩
    have HU3 := Aside.mk (HU.it.1.later (DZ.it.k.trans KA).bel)
    have KAA := Aside.mk KA
    clear KA DA c3 c4
    go_upto_region 6 with (first
      | (at_builtin; refine wpList_appendB rfl _ _ rfl w3.heap.size _ _ ([] ++ dr.wr) ns O4.it (HR.it.later (DZ.it.k.trans (Keeps.ofBelow (KAA.it.bel.trans K4.it))).bel) bd2.it (Nat.le_trans hsz.it K4.it.size) rfl rfl ?_; intro v5 w5 O5 K5)
      | (at_builtin; refine wpList_appendB rfl _ _ rfl w3.heap.size _ _ [] dr.wr OM.it HU3.it bd.it hsz.it rfl rfl ?_; intro v4 w4 O4 K4)
      | go_in)
    rw [List.nil_append] at O5
    obtain ⟨q5, c5, hv5⟩ := O5.it.val
    obtain ⟨l5, hl5⟩ : ∃ l5, (dr.wr ++ ns).length = l5 := ⟨_, rfl⟩
    rw [hl5] at hv5
    subst hv5
    have K35 : Aside (Keeps Nowhere w3 w5) := ⟨Keeps.ofBelow ((KAA.it.bel.trans K4.it).trans K5.it)⟩
    have D5 := Aside.mk (DZ.it.quiet K35.it)
    have D4 := Aside.mk (D5.it.put hrb.it 1 (.slice q5 l5 c5))
    rw [hcl] at D4
    have x1 : w5.cell? ⟨rb, 1, none⟩ = some (.slice uq ul uc) := D5.it.cells.2.2.2.1 1
    have x2 := D5.it.cells.2.2.2.2 1
    have hne5 := Aside.mk (cells_row_ne D5.it.r O5.it (by decide))
    have KS : Aside (Keeps (fun k => k = rb) w5 (w5.setCell ⟨rb, 1, none⟩ (.slice q5 l5 c5))) := ⟨(Keeps.refl _ _).setCell _ _ (fun _ => rfl)⟩
    have HL5 := Aside.mk hl5
    clear hcl hl5 r1' K4 O4
    go_upto_region 7 with fail
    clear c0 c1 c2 r1 r2 r3 r4 f1 x1 x2
    generalize w5.setCell ⟨rb, 1, none⟩ (.slice q5 l5 c5) = w6 at D4 KS ⊢
    have OWN : Aside (RdO (give (give own w.heap.size 8) w3.heap.size 9) 9 w6 (.slice q5 l5 c5) (dr.wr ++ ns)) := ⟨by
      have ho := owns_later O5.it KS.it (fun y hy e => hne5.it (by rw [hy, e]))
      exact ⟨OwnB.rd ho, fun g hg => ⟨owns_lt ho g hg, give_new (owns_base ho g hg)⟩⟩⟩
    have S39 : Aside (RdD (give (give own w.heap.size 8) w3.heap.size 9) w6 (.slice a U.length c) U) := ⟨by
      have h3 : RdD (give own w.heap.size 8) w3 (.slice a U.length c) U := H.it.step DZ.it.k 8
      have h5 := h3.step K35.it 9
      have e8 : give (give own w.heap.size 8) w3.heap.size 9 rb = 8 := by rw [give_old DZ.it.r.lt]; exact give_new hrb.it
      exact h5.sn (I := fun k => k = 8) ⟨fun _ _ => rfl, KS.it.mono (fun k e _ => by rw [e]; exact e8)⟩ (by decide)⟩
    have WT := Aside.mk (dWith (own := give (give own w.heap.size 8) w3.heap.size 9) (d := ⟨dk, .slice q5 l5 c5, ⟨dr.wr ++ ns, dr.rd, false, dr.en⟩⟩) S39.it hl UP.it (OWN.it))
    simp only [rowV] at WT
    obtain ⟨c0, c1, c2, c3, c4⟩ := D4.it.cells
    have r0 : w6.cell? ⟨rb, 0, none⟩ = some (.int .i64 dk) := c3 0
    have r1 : w6.cell? ⟨rb, 1, none⟩ = some (.slice q5 l5 c5) := c3 1
    have r2 : w6.cell? ⟨rb, 2, none⟩ = some (.int .i64 ((dr.rd : Nat) : Int)) := c3 2
    have r3 : w6.cell? ⟨rb, 3, none⟩ = some (.bool false) := c3 3
    have r4 : w6.cell? ⟨rb, 4, none⟩ = some (.bool dr.en) := c3 4
    clear c3 c4
    go_wp2_with (first | (go_at_call 42; refine WT.it.mono ?_; rintro e w7 ⟨q7, l7, c7, rfl, R7, K7⟩
                          have D7 := Aside.mk (D4.it.quiet K7.it)
                          obtain ⟨x0, x1, x2, _, _⟩ := D7.it.cells) | fail)
    have FN := Aside.mk (D7.it.fin (by have := HBX.it; omega) (.slice q7 l7 c7))
    have y0 := FN.it.2
    refine bodyPost_ret (v := .tuple #[.agg #[.slice q7 l7 c7], .int .i64 0]) (by simp [results, Tryd.f24, go_sem, y0]) rfl ?_
    exact ⟨_, _, _, _, by rw [HC1.it]; try rfl, ⟨with_fin R7.it D4.it (by rw [give_old DZ.it.a.lt]; exact give_new (by have := HBX.it; omega)) (lab89 _ DZ.it.k.size), by rw [HC2.it, mdl_set]; simp⟩, ⟨FN.it.1⟩⟩
end Go.Proofs.YteojdangidnnkaaDoor
