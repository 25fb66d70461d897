/-
  package stream: New.
-/
import Derived.Test.YteghehhifebhcaaDoorOStmH
import Derived.Test.YteghehhifebhcaaDoorOpenS
namespace Go.Proofs.YteghehhifebhcaaDoor
open Go.RowKit

section
variable {own own' : Nat → Nat} {i : Nat} {w w' w0 : World} {p : Nat} {A : Nat → Addr}
def inC (n m : Int) : Bool := decide (1 ≤ n) && decide (n ≤ m)
theorem within_any (n m : Int) (w : World) : Calls Tryd.prog 59 #[.int .i64 n, .int .i64 m] w fun e w' => e = .returned (.bool (inC n m)) ∧ w' = w := by
  unfold inC
  by_cases h : 1 ≤ n
  · rw [decide_eq_true h]
    go_enter Tryd.func59, Tryd.ntmps59
    go_wp2
    go_ret
    exact ⟨rfl, rfl⟩
  · rw [decide_eq_false h]
    go_enter Tryd.func59, Tryd.ntmps59
    go_wp2
    go_ret
    exact ⟨rfl, rfl⟩
def Cf.good (z : Cf) : Bool := inC z.win 2147483647 && inC z.stage 1048576 && inC z.frame 65536
theorem mayBe10 (z : Cf) (w : World) : Calls Tryd.prog 29 #[z.val] w fun e w' => e = .returned (.bool z.good) ∧ Aside (Keeps Nowhere w w') := by
  have h1 := Aside.mk (fun w => within_any z.win 2147483647 w)
  have h2 := Aside.mk (fun w => within_any z.stage 1048576 w)
  have h3 := Aside.mk (fun w => within_any z.frame 65536 w)
  unfold Cf.good
  generalize inC z.win 2147483647 = b1 at h1 ⊢
  generalize inC z.stage 1048576 = b2 at h2 ⊢
  generalize inC z.frame 65536 = b3 at h3 ⊢
  unfold Cf.val
  cases b1
  · go_enter Tryd.func29, Tryd.ntmps29
    go_wp2_with (first | (go_at_call 59; with_reducible refine (h1.it _).mono ?_; rintro e w' ⟨rfl, hw⟩; subst hw) | fail)
    all_goals (go_ret; exact ⟨rfl, ⟨(Keeps.refl _ _).alloc _⟩⟩)
  · cases b2
    · go_enter Tryd.func29, Tryd.ntmps29
      go_wp2_with (first | (go_at_call 59; with_reducible refine (h1.it _).mono ?_; rintro e w' ⟨rfl, hw⟩; subst hw) | (go_at_call 59; with_reducible refine (h2.it _).mono ?_; rintro e w' ⟨rfl, hw⟩; subst hw) | fail)
      all_goals (go_ret; exact ⟨rfl, ⟨(Keeps.refl _ _).alloc _⟩⟩)
    · go_enter Tryd.func29, Tryd.ntmps29
      go_wp2_with (first | (go_at_call 59; with_reducible refine (h1.it _).mono ?_; rintro e w' ⟨rfl, hw⟩; subst hw) | (go_at_call 59; with_reducible refine (h2.it _).mono ?_; rintro e w' ⟨rfl, hw⟩; subst hw) | (go_at_call 59; with_reducible refine (h3.it _).mono ?_; rintro e w' ⟨rfl, hw⟩; subst hw) | fail)
      all_goals (go_ret; exact ⟨rfl, ⟨(Keeps.refl _ _).alloc _⟩⟩)
/-- New's world -/
structure Nw (ownS : Nat → Nat) (wS : World) (i p c : Nat) (z : Cf) (cs : List Value) (own : Nat → Nat) (W : World) : Prop where
  box : CellsO own i W p 96 cs
  cf : Cells W c 23 z.cells
  ne : c ≠ p
  p1 : wS.heap.size ≤ p
  k : Sn (fun _ => False) ownS wS own W
variable {ownS : Nat → Nat} {wS W W' : World} {c : Nat} {z : Cf} {cs : List Value}
theorem Nw.fresh (h : Nw ownS wS i p c z cs own W) (s : Sn (fun _ => False) own W own' W') : Nw ownS wS i p c z cs own' W' :=
  ⟨h.box.sn s (fun x => x), h.cf.later s.keeps (fun x => x), h.ne, h.p1, h.k.trans s⟩
theorem Nw.set (h : Nw ownS wS i p c z cs own W) (j : Nat) (v : Value) : Nw ownS wS i p c z (cs.set j v) own (W.setCell ⟨p, j, none⟩ v) :=
  ⟨⟨h.box.1.setCell j v, h.box.2⟩, h.cf.setOther _ _ h.ne, h.ne, h.p1, ⟨h.k.agree, h.k.keeps.setCell _ _ (fun x => by have := h.p1; exact absurd x (by show ¬ p < wS.heap.size; omega))⟩⟩
theorem Nw.sn1 (h : Nw ownS wS i p c z cs own W) (j : Nat) (v : Value) : Sn (fun k => k = i) own W own (W.setCell ⟨p, j, none⟩ v) := ⟨fun _ _ => rfl, (Keeps.refl _ _).setCell _ _ (fun _ => h.box.2)⟩
theorem ring_new {n : Nat} (hn : n ≤ 2147483647) (own : Nat → Nat) (j : Nat) (w : World) : Calls Tryd.prog 30 #[.int .i64 n] w fun e w' => ∃ q own', e = .returned (.tuple #[ptr q, .nilIface]) ∧ Aside (Rbyte.RingO own' j w' (ptr q) n (bv []) ∧ Sn (fun _ => False) own w own' w') := by
  refine (Rbyte.new_good w n hn).mono ?_
  rintro e w' ⟨rfl, hR, hk⟩
  refine ⟨_, give own w.heap.size j, rfl, ⟨hR.mono (fun k e _ => ?_), Sn.quiet hk j⟩⟩
  rw [e]
  exact give_new (Nat.le_refl _)
theorem newS_range (z : Cf) (mine : Bool) (hs : SentO A w) : Calls Tryd.prog 9 #[.int .u32 0, z.val, .bool mine] w fun e w' => ∃ v, e = .returned (.tuple #[.pointer none, v]) ∧ Hid (Coded A v 2) ∧ Aside (Keeps Nowhere w w') := by
  have S1 := hs.later ((Keeps.refl Nowhere w).alloc (.cells z.cells.toArray 23)).bel
  have r1 := S1.cell 1 0 rfl
  obtain ⟨w1, hw1⟩ : ∃ w1, w1 = w.alloc (.cells z.cells.toArray 23) := ⟨_, rfl⟩
  have K1 : Keeps Nowhere w w1 := by rw [hw1]; exact (Keeps.refl _ _).alloc _
  rw [← hw1] at r1
  unfold Cf.cells at hw1
  clear hs S1
  unfold Cf.val
  go_enter Tryd.func9, Tryd.ntmps9
  go_upto_region 1 with fail
  rw [← hw1]
  clear hw1
  go_wp2
  go_quiet (fail)
  go_wp2
  go_ret2
  exact ⟨_, rfl, Coded.mk 1 2 (by decide) (by decide) rfl, ⟨K1.drewN _⟩⟩
theorem newS_config (z : Cf) (id : Int) (mine : Bool) (hid : ¬ id = 0) (hz : z.good = false) (hs : SentO A w) : Calls Tryd.prog 9 #[.int .u32 id, z.val, .bool mine] w fun e w' => ∃ v, e = .returned (.tuple #[.pointer none, v]) ∧ Hid (Coded A v 10) ∧ Aside (Keeps Nowhere w w') := by
  obtain ⟨w1, hw1⟩ : ∃ w1, w1 = w.alloc (.cells z.cells.toArray 23) := ⟨_, rfl⟩
  have K1 : Keeps Nowhere w w1 := by rw [hw1]; exact (Keeps.refl _ _).alloc _
  have C1 : Cells w1 w.heap.size 23 z.cells := by rw [hw1]; exact Cells.new w _ _
  have c0 : w1.cell? ⟨w.heap.size, 0, none⟩ = some (.int .i64 z.win) := C1.cell 0
  have c1 : w1.cell? ⟨w.heap.size, 1, none⟩ = some (.int .i64 z.stage) := C1.cell 1
  have c2 : w1.cell? ⟨w.heap.size, 2, none⟩ = some (.int .i64 z.frame) := C1.cell 2
  have c3 : w1.cell? ⟨w.heap.size, 3, none⟩ = some (.int .i64 z.c3) := C1.cell 3
  have c4 : w1.cell? ⟨w.heap.size, 4, none⟩ = some (.int .i64 z.c4) := C1.cell 4
  have c5 : w1.cell? ⟨w.heap.size, 5, none⟩ = some (.int .i64 z.c5) := C1.cell 5
  have c6 : w1.cell? ⟨w.heap.size, 6, none⟩ = some (.int .i64 z.c6) := C1.cell 6
  have c7 : w1.cell? ⟨w.heap.size, 7, none⟩ = some (.int .i64 z.c7) := C1.cell 7
  have M := Aside.mk (mayBe10 z w1)
  rw [hz] at M
  have HS := Aside.mk (hs.later K1.bel)
  unfold Cf.cells at hw1
  clear hs C1 hz
  unfold Cf.val at M ⊢
  go_enter Tryd.func9, Tryd.ntmps9
  go_upto_region 1 with fail
  rw [← hw1]
  clear hw1
  go_upto_region 4 with (first | (go_at_call 29; refine M.it.mono ?_; rintro e w2 ⟨rfl, K2⟩) | fail)
  have r1 := (HS.it.later K2.it.bel).cell 9 1 rfl
  go_quiet (fail)
  go_wp2
  go_ret2
  exact ⟨_, rfl, Coded.mk 9 10 (by decide) (by decide) rfl, ⟨(K1.trans K2.it).drewN _⟩⟩
theorem good_iff (z : Cf) (h : z.good = true) : (1 ≤ z.win ∧ z.win ≤ 2147483647) ∧ (1 ≤ z.stage ∧ z.stage ≤ 1048576) ∧ (1 ≤ z.frame ∧ z.frame ≤ 65536) := by
  unfold Cf.good inC at h
  simp at h
  omega
set_option maxHeartbeats 1000000 in
theorem newS_ok (z : Cf) (id : Int) (mine : Bool) (h1 : 1 ≤ id) (h2 : id ≤ 4294967295) (hz : z.good = true) (h9 : St9 A w) (own : Nat → Nat) (i : Nat) : Calls Tryd.prog 9 #[.int .u32 id, z.val, .bool mine] w fun e w' => ∃ p own', e = .returned (.tuple #[ptr p, .nilIface]) ∧ Aside (StmI own' i w' p (Dm.new id z.win.toNat z.stage.toNat z.frame mine) ∧ w.heap.size ≤ p ∧ Sn (fun _ => False) own w own' w') := by
  obtain ⟨⟨g1, g2⟩, ⟨g3, g4⟩, g5, g6⟩ := good_iff z hz
  obtain ⟨W, hW⟩ : ∃ W : Nat, z.win = W := ⟨z.win.toNat, by omega⟩
  obtain ⟨T, hT⟩ : ∃ T : Nat, z.stage = T := ⟨z.stage.toNat, by omega⟩
  have M : Aside (∀ w, Calls Tryd.prog 29 #[z.val] w fun e w' => e = .returned (.bool true) ∧ Aside (Keeps Nowhere w w')) := ⟨fun w => by rw [← hz]; exact mayBe10 z w⟩
  have okk : Aside (Dm.Ok (Dm.new id W T z.frame mine)) := ⟨Dm.new_ok h1 h2 (by omega) (by omega) (by omega) (by omega) g5 g6⟩
  rw [show z.win.toNat = W by omega, show z.stage.toNat = T by omega]
  have hid : ¬ id = 0 := by omega
  have b1 : Aside (1 ≤ W ∧ W ≤ 2147483647) := ⟨by omega⟩
  have b2 : Aside (1 ≤ T ∧ T ≤ 1048576) := ⟨by omega⟩
  have H9 := Aside.mk h9
  obtain ⟨zw, zs, zf, z3, z4, z5, z6, z7⟩ := z
  simp only at hW hT g1 g2 g3 g4 g5 g6 okk M
  subst hW hT
  clear g1 g2 g3 g4 h1 h2 h9 hz
  obtain ⟨w1, hw1⟩ : ∃ w1, w1 = w.alloc (.cells #[.int .i64 W, .int .i64 T, .int .i64 zf, .int .i64 z3, .int .i64 z4, .int .i64 z5, .int .i64 z6, .int .i64 z7] 23) := ⟨_, rfl⟩
  have K1 : Keeps Nowhere w w1 := by rw [hw1]; exact (Keeps.refl _ _).alloc _
  have C1 : Aside (Cells w1 w.heap.size 23 (Cf.cells ⟨W, T, zf, z3, z4, z5, z6, z7⟩)) := ⟨by rw [hw1]; exact Cells.new w _ _⟩
  have c0 : w1.cell? ⟨w.heap.size, 0, none⟩ = some (.int .i64 W) := C1.it.cell 0
  have c1 : w1.cell? ⟨w.heap.size, 1, none⟩ = some (.int .i64 T) := C1.it.cell 1
  have c2 : w1.cell? ⟨w.heap.size, 2, none⟩ = some (.int .i64 zf) := C1.it.cell 2
  have c3 : w1.cell? ⟨w.heap.size, 3, none⟩ = some (.int .i64 z3) := C1.it.cell 3
  have c4 : w1.cell? ⟨w.heap.size, 4, none⟩ = some (.int .i64 z4) := C1.it.cell 4
  have c5 : w1.cell? ⟨w.heap.size, 5, none⟩ = some (.int .i64 z5) := C1.it.cell 5
  have c6 : w1.cell? ⟨w.heap.size, 6, none⟩ = some (.int .i64 z6) := C1.it.cell 6
  have c7 : w1.cell? ⟨w.heap.size, 7, none⟩ = some (.int .i64 z7) := C1.it.cell 7
  unfold Cf.val at M ⊢
  go_enter Tryd.func9, Tryd.ntmps9
  go_upto_region 1 with fail
  rw [← hw1]
  clear hw1
  obtain ⟨c, hc⟩ : ∃ c, Aside (c = w.heap.size) := ⟨_, ⟨rfl⟩⟩
  rw [← hc.it] at C1 c0 c1 c2 c3 c4 c5 c6 c7 ⊢
  go_upto_region 5 with (first | (go_at_call 29; refine (M.it _).mono ?_; rintro e w2 ⟨rfl, K2⟩) | fail)
  have C2 := Aside.mk (C1.it.later K2.it (fun x => x))
  clear c0 c1 c2 c3 c4 c5 c6 c7
  have e2 : w2.cell? ⟨c, 2, none⟩ = some (.int .i64 zf) := C2.it.cell 2
  go_upto_region 6 with fail
  obtain ⟨w3, hw3⟩ : ∃ w3, w3 = w2.alloc (.cells #[.int .u32 id, .int .i64 zf, .bool mine, .int .i64 0, .bool false, .bool false, .bool false, .bool false, .pointer none, .pointer none, .pointer none, .pointer none] 96) := ⟨_, rfl⟩
  have N3 : Aside (Nw own w i w2.heap.size c ⟨W, T, zf, z3, z4, z5, z6, z7⟩ [.int .u32 id, .int .i64 zf, .bool mine, .int .i64 0, .bool false, .bool false, .bool false, .bool false, .pointer none, .pointer none, .pointer none, .pointer none] (give own w.heap.size i) w3) := by
    have k : Keeps Nowhere w2 w3 := by rw [hw3]; exact (Keeps.refl _ _).alloc _
    have l := C2.it.lt
    have l2 := K1.size
    have l3 := K2.it.size
    exact ⟨⟨by rw [hw3]; exact Cells.new w2 _ _, give_new (by omega)⟩, C2.it.later k (fun x => x), by omega, by omega, Sn.quiet ((K1.trans K2.it).trans k) i⟩
  rw [← hw3]
  clear hw3
  generalize w2.heap.size = p at N3 ⊢
  generalize give own w.heap.size i = own3 at N3
  have e1 : w3.cell? ⟨c, 1, none⟩ = some (.int .i64 T) := N3.it.cf.cell 1
  have RN := Aside.mk (ring_new (n := T) (by have := b2.it; omega) own3 (i + 1) w3)
  go_upto_region 7 with (first | (go_at_call 30; refine RN.it.mono ?_; rintro e w4 ⟨q4, own4, rfl, Y4⟩; have N4 := Aside.mk (N3.it.fresh Y4.it.2); have f8 : w4.cell? ⟨p, 8, none⟩ = some (.pointer none) := N4.it.box.1.cell 8; have y8 := N4.it.box.1.frozen 8) | fail)
  have N5 : Aside (Nw own w i p c ⟨W, T, zf, z3, z4, z5, z6, z7⟩ [.int .u32 id, .int .i64 zf, .bool mine, .int .i64 0, .bool false, .bool false, .bool false, .bool false, ptr q4, (.pointer none), (.pointer none), (.pointer none)] own4 (w4.setCell ⟨p, 8, none⟩ (ptr q4))) := ⟨N4.it.set 8 (ptr q4)⟩
  have R5 : Aside (Rbyte.RingO own4 (i + 1) (w4.setCell ⟨p, 8, none⟩ (ptr q4)) (ptr q4) T (bv [])) := ⟨ringO_sn Y4.it.1 (N4.it.sn1 8 _) (by omega)⟩
  generalize w4.setCell ⟨p, 8, none⟩ (ptr q4) = w5 at N5 R5 ⊢
  clear f8 y8 N4 Y4 RN e1 N3
  have e0 : w5.cell? ⟨c, 0, none⟩ = some (.int .i64 W) := N5.it.cf.cell 0
  have CN := Aside.mk (newC_ok (W : Int) w5 own4 (i + 2) (by have := b1.it; omega) (by have := b1.it; omega))
  go_upto_region 8 with (first | (go_at_call 31; refine CN.it.mono ?_; rintro e w6 ⟨q6, own6, rfl, Y6⟩; have N6 := Aside.mk (N5.it.fresh Y6.it.2.2); have f9 : w6.cell? ⟨p, 9, none⟩ = some (.pointer none) := N6.it.box.1.cell 9; have y9 := N6.it.box.1.frozen 9) | fail)
  have N7 : Aside (Nw own w i p c ⟨W, T, zf, z3, z4, z5, z6, z7⟩ [.int .u32 id, .int .i64 zf, .bool mine, .int .i64 0, .bool false, .bool false, .bool false, .bool false, ptr q4, ptr q6, (.pointer none), (.pointer none)] own6 (w6.setCell ⟨p, 9, none⟩ (ptr q6))) := ⟨N6.it.set 9 (ptr q6)⟩
  have R7 : Aside (Rbyte.RingO own6 (i + 1) (w6.setCell ⟨p, 9, none⟩ (ptr q6)) (ptr q4) T (bv [])) := ⟨ringO_sn (ringO_sn R5.it Y6.it.2.2 (fun x => x)) (N6.it.sn1 9 _) (by omega)⟩
  have S7 : Aside (SendO own6 (i + 2) (w6.setCell ⟨p, 9, none⟩ (ptr q6)) q6 W W 0) := ⟨Y6.it.1.sn (N6.it.sn1 9 _) (by omega)⟩
  generalize w6.setCell ⟨p, 9, none⟩ (ptr q6) = w7 at N7 R7 S7 ⊢
  clear f9 y9 N6 Y6 CN e0 N5 R5
  have e0 : w7.cell? ⟨c, 0, none⟩ = some (.int .i64 W) := N7.it.cf.cell 0
  have RN := Aside.mk (ring_new (n := W) (by have := b1.it; omega) own6 (i + 3) w7)
  go_upto_region 9 with (first | (go_at_call 30; refine RN.it.mono ?_; rintro e w8 ⟨q8, own8, rfl, Y8⟩; have N8 := Aside.mk (N7.it.fresh Y8.it.2); have f10 : w8.cell? ⟨p, 10, none⟩ = some (.pointer none) := N8.it.box.1.cell 10; have y10 := N8.it.box.1.frozen 10) | fail)
  have N9 : Aside (Nw own w i p c ⟨W, T, zf, z3, z4, z5, z6, z7⟩ [.int .u32 id, .int .i64 zf, .bool mine, .int .i64 0, .bool false, .bool false, .bool false, .bool false, ptr q4, ptr q6, ptr q8, (.pointer none)] own8 (w8.setCell ⟨p, 10, none⟩ (ptr q8))) := ⟨N8.it.set 10 (ptr q8)⟩
  have R9 : Aside (Rbyte.RingO own8 (i + 1) (w8.setCell ⟨p, 10, none⟩ (ptr q8)) (ptr q4) T (bv [])) := ⟨ringO_sn (ringO_sn R7.it Y8.it.2 (fun x => x)) (N8.it.sn1 10 _) (by omega)⟩
  have S9 : Aside (SendO own8 (i + 2) (w8.setCell ⟨p, 10, none⟩ (ptr q8)) q6 W W 0) := ⟨(S7.it.sn Y8.it.2 (fun x => x)).sn (N8.it.sn1 10 _) (by omega)⟩
  have U9 : Aside (Rbyte.RingO own8 (i + 3) (w8.setCell ⟨p, 10, none⟩ (ptr q8)) (ptr q8) W (bv [])) := ⟨ringO_sn Y8.it.1 (N8.it.sn1 10 _) (by omega)⟩
  generalize w8.setCell ⟨p, 10, none⟩ (ptr q8) = w9 at N9 R9 S9 U9 ⊢
  clear f10 y10 N8 Y8 RN e0 N7 R7 S7
  have e0 : w9.cell? ⟨c, 0, none⟩ = some (.int .i64 W) := N9.it.cf.cell 0
  have GN := Aside.mk (newG_ok (W : Int) w9 own8 (i + 4) (by have := b1.it; omega) (by have := b1.it; omega))
  go_upto_region 10 with (first | (go_at_call 32; refine GN.it.mono ?_; rintro e wa ⟨qa, owna, rfl, Ya⟩; have Na := Aside.mk (N9.it.fresh Ya.it.2.2); have f11 : wa.cell? ⟨p, 11, none⟩ = some (.pointer none) := Na.it.box.1.cell 11; have y11 := Na.it.box.1.frozen 11) | fail)
  have Nb : Aside (Nw own w i p c ⟨W, T, zf, z3, z4, z5, z6, z7⟩ [.int .u32 id, .int .i64 zf, .bool mine, .int .i64 0, .bool false, .bool false, .bool false, .bool false, ptr q4, ptr q6, ptr q8, ptr qa] owna (wa.setCell ⟨p, 11, none⟩ (ptr qa))) := ⟨Na.it.set 11 (ptr qa)⟩
  have Pb : Aside (PartsO owna i (wa.setCell ⟨p, 11, none⟩ (ptr qa)) (Dm.new id W T zf mine) false 0 (ptr q4) (ptr q6) (ptr q8) (ptr qa)) :=
    ⟨⟨fun _ => rfl, ringO_sn (ringO_sn R9.it Ya.it.2.2 (fun x => x)) (Na.it.sn1 11 _) (by omega), .inr ⟨rfl, q6, 0, rfl, (S9.it.sn Ya.it.2.2 (fun x => x)).sn (Na.it.sn1 11 _) (by omega)⟩, ringO_sn (ringO_sn U9.it Ya.it.2.2 (fun x => x)) (Na.it.sn1 11 _) (by omega), .inr ⟨rfl, qa, rfl, (Ya.it.1.recv).sn (Na.it.sn1 11 _) (by omega)⟩⟩⟩
  generalize wa.setCell ⟨p, 11, none⟩ (ptr qa) = wb at Nb Pb ⊢
  clear f11 y11 Na Ya GN e0 N9 R9 S9 U9
  have T9 := Aside.mk (H9.it.later (Nb.it.k.keeps.below (Nat.le_refl _) (fun _ x => x.elim)))
  have X : Aside (∀ st w', st = Dm.state (Dm.new id W T zf mine) → BoxTo p [.int .u32 id, .int .i64 zf, .bool mine, .int .i64 st, .bool false, .bool false, .bool false, .bool false, ptr q4, ptr q6, ptr q8, ptr qa] wb w' → StmI owna i w' p (Dm.new id W T zf mine) ∧ w.heap.size ≤ p ∧ Sn (fun _ => False) own w owna w') := by
    refine ⟨fun st w' e hb => ?_⟩
    subst e
    refine ⟨⟨okk.it, false, 0, ptr q4, ptr q6, ptr q8, ptr qa, StmO.put hb Nb.it.box.2 Pb.it, fun _ => rfl⟩, Nb.it.p1, ⟨Nb.it.k.agree, Nb.it.k.keeps.next hb.2 (fun k e hk => ?_)⟩⟩
    have := Nb.it.p1
    omega
  rcases (Bool.eq_false_or_eq_true mine).symm with rfl | rfl
  · have ME := Aside.mk (meet_by (e := 1) T9.it Nb.it.box.1 (fun w' hc => do_none 1 (.inr rfl) hc))
    go_wp2_with (first | (go_at_call 33; refine ME.it.mono ?_; rintro e wc ⟨rfl, Yc⟩) | fail)
    go_ret2
    exact ⟨p, owna, rfl, ⟨X.it _ _ rfl Yc.it⟩⟩
  · have ME := Aside.mk (meet_by (e := 0) T9.it Nb.it.box.1 (fun w' hc => do_none 0 (.inl rfl) hc))
    go_wp2_with (first | (go_at_call 33; refine ME.it.mono ?_; rintro e wc ⟨rfl, Yc⟩) | fail)
    go_ret2
    exact ⟨p, owna, rfl, ⟨X.it _ _ rfl Yc.it⟩⟩
end
end Go.Proofs.YteghehhifebhcaaDoor
