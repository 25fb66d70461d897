/-
  culvertref28: Put
-/
import Derived.Test.YtcmgmhdlokcgbaaDoorLuV
namespace Go.Proofs.YtcmgmhdlokcgbaaDoor
open Go.RowKit Lulnn

variable {w w' w0 W : World} {own own' : Nat → Nat} {i c o j b q n cb xb rb m : Nat} {room R k now : Int} {L M : List Rx} {I : Nat → Prop} {A : Nat → Addr} {x y : Rx} {z : Oz} {v va vb gv : Value} {ks ms : List Int}

abbrev xag (x : Rx) : Value := .agg #[.int .i64 x.k, .int .i64 x.t, .int .i64 x.w, .int .i64 x.u]
/-- three boxes above a world: the cache, the row, the result -/
theorem boxes3 (w : World) (R : Int) (v : Value) (x : Rx) (W1 : World) (hW1 : ((w.alloc (.cells #[.int .i64 R, v] 31)).alloc (.cells #[.int .i64 x.k, .int .i64 x.t, .int .i64 x.w, .int .i64 x.u] 102)).alloc (.cells #[.int .i64 0, .slice none 0 0] 31) = W1) :
    Aside (Keeps Nowhere w W1) ∧ Aside (Cells W1 w.heap.size 31 [.int .i64 R, v]) ∧ Aside (Cells W1 (w.heap.size + 1) 102 (x4 x)) ∧ Aside (Cells W1 (w.heap.size + 1 + 1) 31 [.int .i64 0, .slice none 0 0]) := by
  refine ⟨⟨by rw [← hW1]; exact (((Keeps.refl _ _).alloc _).alloc _).alloc _⟩, ⟨by rw [← hW1]; exact (Cells.new w _ _).later (S := Nowhere) (((Keeps.refl _ _).alloc _).alloc _) (fun x => x)⟩, ⟨?_⟩, ⟨?_⟩⟩
  · have h := Cells.new (w.alloc (.cells #[.int .i64 R, v] 31)) 102 (x4 x)
    rw [World.size_alloc] at h
    rw [← hW1]; exact h.later (S := Nowhere) ((Keeps.refl _ _).alloc _) (fun x => x)
  · have h := Cells.new ((w.alloc (.cells #[.int .i64 R, v] 31)).alloc (.cells (x4 x).toArray 102)) 31 [.int .i64 0, .slice none 0 0]
    rw [World.size_alloc, World.size_alloc] at h
    rw [← hW1]; exact h
/-- Put's world: the boxes, the rows, what went -/
structure Pg (own : Nat → Nat) (w wr : World) (R : Int) (x : Rx) (Lc Lg : List Rx) (va gv : Value) : Prop where
  bx : Cells wr w.heap.size 31 [.int .i64 R, va]
  xx : Cells wr (w.heap.size + 1) 102 (x4 x)
  rr : Cells wr (w.heap.size + 1 + 1) 31 [.int .i64 0, .slice none 0 0]
  rd : RdX (give own w.heap.size 9) wr va Lc
  go : wr.ownsRow (w.heap.size + 1 + 1 + 1) 3 1 gv Lg.length (rk Lg)
  kp : Keeps Nowhere w wr
variable {wr : World} {Lc Lg : List Rx}
theorem Pg.quiet (h : Pg own w wr R x Lc Lg va gv) (hk : Keeps Nowhere wr w') : Pg own w w' R x Lc Lg va gv := ⟨h.bx.later hk (fun x => x), h.xx.later hk (fun x => x), h.rr.later hk (fun x => x), h.rd.quiet hk, owns_later h.go hk (fun _ _ x => x), h.kp.trans hk⟩
theorem Pg.sz (h : Pg own w wr R x Lc Lg va gv) : w.heap.size + 1 + 1 < wr.heap.size := h.rr.lt
/-- the box takes other rows -/
theorem Pg.put {v2 : Value} {L2 : List Rx} (h : Pg own w wr R x Lc Lg va gv) (hr : RdX (give own w.heap.size 9) wr v2 L2) : Pg own w ((wr.setCell ⟨w.heap.size, 0, none⟩ (.int .i64 R)).setCell ⟨w.heap.size, 1, none⟩ v2) R x L2 Lg v2 gv := by
  have kk : Keeps (fun x => x = w.heap.size) wr ((wr.setCell ⟨w.heap.size, 0, none⟩ (.int .i64 R)).setCell ⟨w.heap.size, 1, none⟩ v2) := ((Keeps.refl (fun x => x = w.heap.size) wr).setCell ⟨w.heap.size, 0, none⟩ _ (fun _ => rfl)).setCell ⟨w.heap.size, 1, none⟩ _ (fun _ => rfl)
  refine ⟨(h.bx.setCell 0 (.int .i64 R)).setCell 1 v2, h.xx.later kk (by omega), h.rr.later kk (by omega), hr.later kk (fun b cur hc e => ?_), owns_later h.go kk (fun b hb e => ?_), h.kp.next kk (fun x e hlt => by omega)⟩
  · rw [e, h.bx] at hc
    simp at hc
  · have := owns_base h.go b hb
    omega
/-- one more has gone -/
theorem Pg.gone {gv2 : Value} {L2 : List Rx} (h : Pg own w wr R x Lc Lg va gv) (kk : Keeps (fun b => gv.ownBlock = some b) wr w') (ho : w'.ownsRow (w.heap.size + 1 + 1 + 1) 3 1 gv2 L2.length (rk L2)) : Pg own w w' R x Lc L2 va gv2 := by
  have hb := fun b (e : gv.ownBlock = some b) => owns_base h.go b e
  refine ⟨h.bx.later kk (fun e => by have := hb _ e; omega), h.xx.later kk (fun e => by have := hb _ e; omega), h.rr.later kk (fun e => by have := hb _ e; omega), h.rd.later kk (fun b cur hc e => ?_), ho, h.kp.next kk (fun x e hlt => by have := hb _ e; omega)⟩
  rcases h.go.2 with ⟨h1, _⟩ | ⟨g, cap, cur', h1, _, hg, _⟩
  · rw [h1] at e; cases e
  · rw [h1] at e
    simp only [Value.ownBlock, Option.some.injEq] at e
    rw [← e, hg] at hc
    simp at hc
theorem take_erase (M : List Rx) (m : Nat) (hm : m < M.length) : (M.take (m + 1)).eraseIdx m = M.take m := by
  have hl : (M.take m).length = m := by rw [List.length_take]; omega
  rw [List.take_add_one, List.getElem?_eq_getElem hm, Option.toList_some, List.eraseIdx_append_of_length_le (by omega), hl, Nat.sub_self, List.eraseIdx_cons_zero, List.append_nil]
set_option maxRecDepth 20000 in
set_option maxHeartbeats 1000000 in
theorem dput_bad (h : RdX own w v L) (R : Int) (x : Rx) (hb : x.w < 0 ∨ (0 ≤ x.w ∧ R < x.w)) : Calls Tryd.prog 48 #[cch R v, xag x] w fun e w' => ∃ qa qn qc, e = .returned (.tuple #[cch R (.slice qa qn qc), .slice none 0 0, .int .i64 (if x.w < 0 then 2 else 6)]) ∧ Aside (RdX (give own w.heap.size 9) w' (.slice qa qn qc) L) ∧ Aside (Keeps Nowhere w w') := by
  have H := Aside.mk h
  obtain ⟨a, c, rfl, hlc, hcm, _⟩ := h.sh
  clear h
  obtain ⟨W1, hW1⟩ : ∃ W1, ((w.alloc (.cells #[.int .i64 R, .slice a L.length c] 31)).alloc (.cells #[.int .i64 x.k, .int .i64 x.t, .int .i64 x.w, .int .i64 x.u] 102)).alloc (.cells #[.int .i64 0, .slice none 0 0] 31) = W1 := ⟨_, rfl⟩
  obtain ⟨K1, C1, CX, C2⟩ := boxes3 w R (.slice a L.length c) x W1 hW1
  have d0 : W1.cell? ⟨w.heap.size, 0, none⟩ = some (.int .i64 R) := by rw [C1.it.cell]; rfl
  have d1 : W1.cell? ⟨w.heap.size, 1, none⟩ = some (.slice a L.length c) := by rw [C1.it.cell]; rfl
  have x2 : W1.cell? ⟨w.heap.size + 1, 2, none⟩ = some (.int .i64 x.w) := by rw [CX.it.cell]; rfl
  have z0 : W1.cell? ⟨w.heap.size + 1 + 1, 0, none⟩ = some (.int .i64 0) := by rw [C2.it.cell]; rfl
  have z1 : W1.cell? ⟨w.heap.size + 1 + 1, 1, none⟩ = some (.slice none 0 0) := by rw [C2.it.cell]; rfl
  have h0 := C2.it.frozen 0
  have h1 := C2.it.frozen 1
  rcases hb with hb | ⟨hb, hb2⟩
  · rw [if_pos hb]
    go_enter Tryd.func48, Tryd.ntmps48
    go_upto_region 1 with fail
    clear hW1
    go_wp2_with fail
    obtain ⟨u0, u1, KF, KR⟩ := res28 w C2.it (by omega) K1.it R (.slice a L.length c)
    refine bodyPost_ret (v := .tuple #[cch R (.slice a L.length c), .slice none 0 0, .int .i64 2]) (by simp [results, Tryd.f48, go_sem, u0, u1]) rfl ?_
    exact ⟨_, _, _, rfl, ⟨H.it.sn (I := fun _ => False) (Sn.quiet KF.it 9) (fun x => x)⟩, KF⟩
  · have hb3 : ¬ x.w < 0 := by omega
    rw [if_neg hb3]
    go_enter Tryd.func48, Tryd.ntmps48
    go_upto_region 1 with fail
    clear hW1
    go_wp2_with fail
    obtain ⟨u0, u1, KF, KR⟩ := res28 w C2.it (by omega) K1.it R (.slice a L.length c)
    refine bodyPost_ret (v := .tuple #[cch R (.slice a L.length c), .slice none 0 0, .int .i64 6]) (by simp [results, Tryd.f48, go_sem, u0, u1]) rfl ?_
    exact ⟨_, _, _, rfl, ⟨H.it.sn (I := fun _ => False) (Sn.quiet KF.it 9) (fun x => x)⟩, KF⟩
end Go.Proofs.YtcmgmhdlokcgbaaDoor
