/-
  the document's history (culvertref24): Rest, Wrote, Closed, Ended
-/
import Derived.Test.YteojdangidnnkaaDoorTrV
namespace Go.Proofs.YteojdangidnnkaaDoor
open Go.RowKit Go.Maps

variable {w w' W w2 : World} {own own' : Nat → Nat} {v : Value} {U : Ds} {I : Nat → Prop} {k : Int} {d : Dr} {T : Nat} {ns : List Int} {sl : Value}
/-- the boxes of a call: the history, the answer, the row -/
structure Dz (w : World) (bx rb : Nat) (v : Value) (cs : List Value) (W : World) : Prop where
  h : Cells W bx 28 [v]
  a : Cells W (bx + 1) 28 [.slice none 0 0]
  r : Cells W rb 59 cs
  k : Keeps Nowhere w W
variable {bx rb : Nat} {cs : List Value}
theorem Dz.quiet (h : Dz w bx rb v cs W) (hk : Keeps Nowhere W w') : Dz w bx rb v cs w' := ⟨h.h.later hk (fun x => x), h.a.later hk (fun x => x), h.r.later hk (fun x => x), h.k.trans hk⟩
theorem Dz.rne (h : Dz w bx rb v cs W) : bx ≠ rb ∧ bx + 1 ≠ rb := by
  have key : ∀ {b : Nat} {xs : List Value}, Cells W b 28 xs → b ≠ rb := fun {b xs} hc e => by
    subst e
    have h2 := h.r
    unfold Cells at hc h2
    rw [hc] at h2
    injection h2 with h2
    simp only [Obj.cells.injEq] at h2
    exact absurd h2.2.1 (by decide)
  exact ⟨key h.h, key h.a⟩
theorem Dz.put (h : Dz w bx rb v cs W) (hb : w.heap.size ≤ rb) (i : Nat) (x : Value) : Dz w bx rb v (cs.set i x) (W.setCell ⟨rb, i, none⟩ x) :=
  ⟨h.h.setOther ⟨rb, i, none⟩ x (fun e => h.rne.1 e), h.a.setOther ⟨rb, i, none⟩ x (fun e => h.rne.2 e), h.r.setCell i x, h.k.next (S' := fun k => k = rb) ((Keeps.refl _ _).setCell _ _ (fun _ => rfl)) (fun k e hlt => by omega)⟩
theorem Dz.start (w : World) (v : Value) {w2 : World} (K2 : Keeps Nowhere ((w.alloc (.cells #[v] 28)).alloc (.cells #[.slice none 0 0] 28)) w2) (cs : List Value) : Dz w w.heap.size w2.heap.size v cs (w2.alloc (.cells cs.toArray 59)) := by
  have KA : Keeps Nowhere w2 (w2.alloc (.cells cs.toArray 59)) := (Keeps.refl _ _).alloc _
  refine ⟨?_, ?_, Cells.new w2 _ cs, ((((Keeps.refl _ _).alloc _).alloc _).trans K2).trans KA⟩
  · exact ((Cells.new w _ [v]).later (S := Nowhere) (((Keeps.refl _ _).alloc _).trans K2) (fun x => x)).later KA (fun x => x)
  · have h := Cells.new (w.alloc (.cells #[v] 28)) 28 [.slice none 0 0]
    rw [World.size_alloc] at h
    exact (h.later K2 (fun x => x)).later KA (fun x => x)
/-- the answer is written -/
theorem Dz.fin (h : Dz w bx rb v cs W) (hb : w.heap.size ≤ bx) (x : Value) : Keeps Nowhere w (W.setCell ⟨bx + 1, 0, none⟩ x) ∧ (W.setCell ⟨bx + 1, 0, none⟩ x).cell? ⟨bx + 1, 0, none⟩ = some x :=
  ⟨h.k.next (S' := fun k => k = bx + 1) ((Keeps.refl _ _).setCell _ _ (fun _ => rfl)) (fun k e hlt => by omega), by rw [(h.a.setCell 0 x).cell]; rfl⟩
theorem Dz.cells (h : Dz w bx rb v cs W) : W.cell? ⟨bx, 0, none⟩ = some v ∧ W.cell? ⟨bx + 1, 0, none⟩ = some (.slice none 0 0) ∧ W.frozen? ⟨bx + 1, 0, none⟩ = false ∧ (∀ i, W.cell? ⟨rb, i, none⟩ = cs[i]?) ∧ ∀ i, W.frozen? ⟨rb, i, none⟩ = false := ⟨by rw [h.h.cell]; rfl, by rw [h.a.cell]; rfl, h.a.frozen 0, fun i => h.r.cell i, fun i => h.r.frozen i⟩
set_option maxHeartbeats 1000000 in
theorem dRest (h : RdD own w v U) (hl : U.length ≤ 2147483648) (ok : TOk T (mdl U)) (hT : T ≤ 70368744177664) (z : Int) :
    Calls Tryd.prog 23 #[.agg #[v], .int .i64 z] w fun e w' => ∃ q c, e = .returned (.slice q (got (mdl U) z).rest.length c) ∧ Aside (OwnB w.heap.size w' (.slice q (got (mdl U) z).rest.length c) (got (mdl U) z).rest) ∧ Aside (Keeps Nowhere w w') := by
  have gk := ok.got z
  rw [← mdl_got] at gk ⊢
  obtain ⟨d, hd⟩ : ∃ d, dgot U z = d := ⟨_, rfl⟩
  have hu := h.got z
  rw [hd] at gk hu ⊢
  obtain ⟨W1, hW1⟩ : ∃ W1, w.alloc (.cells #[v] 28) = W1 := ⟨_, rfl⟩
  have K1 : Aside (Keeps Nowhere w W1) := ⟨by rw [← hW1]; exact (Keeps.refl _ _).alloc _⟩
  obtain ⟨bx, hbx⟩ : ∃ bx, w.heap.size = bx := ⟨_, rfl⟩
  have C1 : Aside (Cells W1 bx 28 [v]) := ⟨by rw [← hW1, ← hbx]; exact Cells.new w _ _⟩
  have OF := Aside.mk (dOf (h.quiet K1.it) hl z)
  rw [hd] at OF
  obtain ⟨dk, du, dr⟩ := d
  obtain ⟨uq, uc, hdu⟩ := hu.sl
  simp only at hdu gk hu
  subst hdu
  obtain ⟨a, c, rfl, _⟩ := h.s
  obtain ⟨ul, hul⟩ : ∃ ul, dr.wr.length = ul := ⟨_, rfl⟩
  obtain ⟨rd, hrd⟩ : ∃ rd, dr.rd = rd := ⟨_, rfl⟩
  obtain ⟨m, hm⟩ : ∃ m, dr.rest.length = m := ⟨_, rfl⟩
  have hmm : m = ul - rd := by rw [← hm, Rc.rest_len, hul, hrd]
  simp only [rowV, hul, hrd] at OF
  have HU := Aside.mk hu
  rw [hul] at HU
  have huc : ul ≤ uc := HU.it.1.len.2
  have hr1 := gk.rd
  have hr2 := gk.len
  rw [hul] at hr1 hr2
  rw [hrd] at hr1
  have g1 : (rd : Int) ≤ (ul : Int) := by omega
  have g2 : (ul : Int) ≤ (uc : Int) := by omega
  have d1 : W1.cell? ⟨bx, 0, none⟩ = some (.slice a U.length c) := by rw [C1.it.cell]; rfl
  have HRM := Aside.mk (And.intro hul (And.intro hrd hm))
  have hTm : Aside (m ≤ 70368744177664) := ⟨by omega⟩
  show Calls _ _ _ _ _
  rw [show (⟨dk, Value.slice uq dr.wr.length uc, dr⟩ : Dr).r.rest = dr.rest from rfl, hm]
  clear h ok gk hu hd hul hrd hm
  go_enter Tryd.func23, Tryd.ntmps23
  go_upto_region 1 with fail
  clear hW1 hbx
  go_upto_region 2 with (first | (go_at_call 30; refine OF.it.mono ?_; rintro e w2 ⟨rfl, K2⟩) | fail)
  have DZ : Aside (Cells (w2.alloc (.cells #[.int .i64 dk, .slice uq ul uc, .int .i64 rd, .bool dr.cl, .bool dr.en] 59)) w2.heap.size 59 [.int .i64 dk, .slice uq ul uc, .int .i64 rd, .bool dr.cl, .bool dr.en]) := ⟨Cells.new w2 _ _⟩
  have K3 : Aside (Keeps Nowhere w (w2.alloc (.cells #[.int .i64 dk, .slice uq ul uc, .int .i64 rd, .bool dr.cl, .bool dr.en] 59))) := ⟨(K1.it.trans K2.it).alloc _⟩
  obtain ⟨rb, hrb⟩ : ∃ rb, w2.heap.size = rb := ⟨_, rfl⟩
  rw [hrb] at DZ ⊢
  generalize w2.alloc (.cells #[.int .i64 dk, .slice uq ul uc, .int .i64 rd, .bool dr.cl, .bool dr.en] 59) = w3 at DZ K3 ⊢
  clear hrb d1
  have KA : Keeps Nowhere w3 (w3.alloc (.cells #[] 5)) := (Keeps.refl _ _).alloc _
  have DA := DZ.it.later KA (fun x => x)
  have e1 : (w3.alloc (.cells #[] 5)).cell? ⟨rb, 1, none⟩ = some (.slice uq ul uc) := by rw [DA.cell]; rfl
  have e2 : (w3.alloc (.cells #[] 5)).cell? ⟨rb, 2, none⟩ = some (.int .i64 rd) := by rw [DA.cell]; rfl
  have RE := RdS.drop (S := Nowhere) (n := rd) (HU.it.1.later (K3.it.trans KA).bel) (by rw [HRM.it.1]; exact hr1)
  rw [show dr.wr.drop rd = dr.rest by unfold Rc.rest; rw [HRM.it.2.1]] at RE
  have OM := Aside.mk (own_made w3)
  have bd : Aside (([] : List Int).length + dr.rest.length ≤ 140737488355328) := ⟨by rw [HRM.it.2.2]; simp; have := hTm.it; omega⟩
  have hsz : Aside (w3.heap.size ≤ (w3.alloc (.cells #[] 5)).heap.size) := ⟨KA.size⟩
  have KAA := Aside.mk KA
  by_cases hcr : uc = rd
  · have hur : ul = rd := by omega
    subst hcr
    subst hur
    have hm0 : m = 0 := by omega
    subst hm0
    simp only [if_true, Nat.sub_self] at RE
    have HRE := Aside.mk RE
    clear RE DA KA hmm g1 g2 hr1 huc
    go_wp2_with (first | (at_builtin; refine wpList_appendB rfl _ _ rfl w3.heap.size _ _ [] dr.rest OM.it HRE.it bd.it hsz.it rfl rfl ?_; intro v4 w4 O4 K4) | go_in)
    rw [List.nil_append] at O4
    obtain ⟨q4, c4, hv4⟩ := O4.it.val
    rw [HRM.it.2.2] at hv4
    subst hv4
    go_wp2_with fail
    go_ret
    exact ⟨q4, c4, rfl, ⟨O4.it.mono K3.it.size⟩, ⟨K3.it.trans (Keeps.ofBelow (KAA.it.bel.trans K4.it))⟩⟩
  · simp only [hcr, if_false] at RE
    rw [← hmm] at RE
    have HRE := Aside.mk RE
    have em : ul - rd = m := hmm.symm
    clear RE DA KA hmm
    go_wp2_with (first | (at_builtin; refine wpList_appendB rfl _ _ rfl w3.heap.size _ _ [] dr.rest OM.it HRE.it bd.it hsz.it rfl rfl ?_; intro v4 w4 O4 K4) | go_in)
    rw [List.nil_append] at O4
    obtain ⟨q4, c4, hv4⟩ := O4.it.val
    rw [HRM.it.2.2] at hv4
    subst hv4
    go_wp2_with fail
    go_ret
    exact ⟨q4, c4, rfl, ⟨O4.it.mono K3.it.size⟩, ⟨K3.it.trans (Keeps.ofBelow (KAA.it.bel.trans K4.it))⟩⟩
end Go.Proofs.YteojdangidnnkaaDoor
