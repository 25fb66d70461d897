import Derived.Test.YtnohcbdnhpaafaaDoorSdx
import Derived.Test.YtnohcbdnhpaafaaDoorScT
import Derived.Test.YtnohcbdnhpaafaaDoorLnN
import Derived.Test.YtnohcbdnhpaafaaDoorFx
import Derived.Test.YtnohcbdnhpaafaaDoorOpx
import Derived.Deep.DeepCutAuto
import Derived.Deep.CutBlock
/-
  package sched: a nil scheduler's answers
-/
namespace Go.Proofs.YtnohcbdnhpaafaaDoor
open Go.RowKit

variable {A : Nat → Addr} {w w' w0 W : World}

theorem ready_nil13 (id : Nat) (w : World) : Calls Tryd.prog 9 #[.pointer none, .int .u32 id] w fun e w' => e = .returned (.bool false) ∧ Aside (Keeps Nowhere w w') := by
  have P := Aside.mk (parts_nil w)
  have C := Aside.mk (fun W => Rbuint32.add_nil id W)
  have F1 := sc_f1 none none
  go_enter Tryd.func9, Tryd.ntmps9
  go_wp2_with (first
    | (go_at_call 27; refine P.it.mono ?_; rintro e w1 ⟨rfl, k1⟩)
    | (go_at_call 29; refine (C.it w1).mono ?_; rintro e w2 ⟨rfl, rfl⟩))
  go_ret
  exact ⟨rfl, k1⟩
theorem rest_nil13 (id : Nat) (w : World) : Calls Tryd.prog 17 #[.pointer none, .int .u32 id] w fun e w' => e = .returned (.bool false) ∧ Aside (Keeps Nowhere w w') := by
  have P := Aside.mk (parts_nil w)
  have C := Aside.mk (fun W => Rbuint32.remove_nil id W)
  have F1 := sc_f1 none none
  go_enter Tryd.func17, Tryd.ntmps17
  go_wp2_with (first
    | (go_at_call 27; refine P.it.mono ?_; rintro e w1 ⟨rfl, k1⟩)
    | (go_at_call 41; refine (C.it w1).mono ?_; rintro e w2 ⟨rfl, rfl⟩))
  go_ret
  exact ⟨rfl, k1⟩
theorem forget_nil13 (id : Nat) (w : World) : Calls Tryd.prog 18 #[.pointer none, .int .u32 id] w fun e w' => e = .returned (.int .i64 0) ∧ Aside (Keeps Nowhere w w') := by
  have R := Aside.mk (rest_nil13 id w)
  have P := Aside.mk (fun W => parts_nil W)
  have C := Aside.mk (fun W => forget_nil W id)
  have F0 := sc_f0 none none
  go_enter Tryd.func18, Tryd.ntmps18
  go_wp2_with (first
    | (go_at_call 17; refine R.it.mono ?_; rintro e w1 ⟨rfl, k1⟩)
    | (go_at_call 27; refine (P.it w1).mono ?_; rintro e w2 ⟨rfl, k2⟩)
    | (go_at_call 42; refine (C.it w2).mono ?_; rintro e w3 ⟨rfl, k3⟩))
  go_ret
  exact ⟨rfl, ⟨(k1.it.trans k2.it).trans k3⟩⟩
theorem withdraw_nil13 (kind : Int) (id : Nat) (w : World) : Calls Tryd.prog 19 #[.pointer none, .int .i64 kind, .int .u32 id] w fun e w' => e = .returned (.bool false) ∧ Aside (Keeps Nowhere w w') := by
  have P := Aside.mk (parts_nil w)
  have C := Aside.mk (fun W => withdraw_nil W kind id)
  have F0 := sc_f0 none none
  go_enter Tryd.func19, Tryd.ntmps19
  go_wp2_with (first
    | (go_at_call 27; refine P.it.mono ?_; rintro e w1 ⟨rfl, k1⟩)
    | (go_at_call 43; refine (C.it w1).mono ?_; rintro e w2 ⟨rfl, k2⟩))
  go_ret
  exact ⟨rfl, ⟨k1.it.trans k2⟩⟩
theorem count_nil13 (kind : Int) (w : World) : Calls Tryd.prog 22 #[.pointer none, .int .i64 kind] w fun e w' => e = .returned (.int .i64 (cntK kind [])) ∧ Aside (Keeps Nowhere w w') := by
  have P := Aside.mk (parts_nil w)
  have C := Aside.mk (fun W => count_nil W kind)
  have F0 := sc_f0 none none
  go_enter Tryd.func22, Tryd.ntmps22
  go_wp2_with (first
    | (go_at_call 27; refine P.it.mono ?_; rintro e w1 ⟨rfl, k1⟩)
    | (go_at_call 46; refine (C.it w1).mono ?_; rintro e w2 ⟨rfl, k2⟩))
  go_ret
  exact ⟨rfl, ⟨k1.it.trans k2.it⟩⟩
theorem tickets_nil13 (w : World) : Calls Tryd.prog 10 #[.pointer none] w fun e w' => ∃ a c, e = .returned (.slice a 0 c) ∧ Aside (Keeps Nowhere w w') := by
  have P := Aside.mk (parts_nil w)
  have C := Aside.mk (fun W => list_nil W)
  have F0 := sc_f0 none none
  go_enter Tryd.func10, Tryd.ntmps10
  go_wp2_with (first
    | (go_at_call 27; refine P.it.mono ?_; rintro e w1 ⟨rfl, k1⟩)
    | (go_at_call 30; refine (C.it w1).mono ?_; rintro e w2 ⟨v, rfl, o2, k2⟩))
  go_ret
  obtain ⟨a, c, rfl⟩ := owns_sl o2.it
  exact ⟨a, c, rfl, ⟨k1.it.trans k2.it⟩⟩
theorem turns_nil13 (w : World) : Calls Tryd.prog 11 #[.pointer none] w fun e w' => e = .returned (.slice none 0 0) ∧ Aside (Keeps Nowhere w w') := by
  have P := Aside.mk (parts_nil w)
  have C := Aside.mk (fun W => Rbuint32.list_nil W)
  have F1 := sc_f1 none none
  go_enter Tryd.func11, Tryd.ntmps11
  go_wp2_with (first
    | (go_at_call 27; refine P.it.mono ?_; rintro e w1 ⟨rfl, k1⟩)
    | (go_at_call 31; refine (C.it w1).mono ?_; rintro e w2 ⟨rfl, rfl⟩))
  go_ret
  exact ⟨rfl, k1⟩
theorem clear_nil13 (w : World) : Calls Tryd.prog 21 #[.pointer none] w fun e w' => e = .returned (.tuple #[]) ∧ Aside (Keeps Nowhere w w') := by
  have P := Aside.mk (parts_nil w)
  have C := Aside.mk (fun W => clear_nil W)
  have R := Aside.mk (fun W => Rbuint32.clear_nil W)
  go_enter Tryd.func21, Tryd.ntmps21
  go_upto_region 1 with (go_at_call 27; refine P.it.mono ?_; rintro e w1 ⟨rfl, k1⟩)
  obtain ⟨b, hb⟩ : ∃ b, b = w1.heap.size := ⟨_, rfl⟩
  obtain ⟨w2, hw2⟩ : ∃ w2, w2 = w1.alloc (.cells #[.pointer none, .pointer none] 68) := ⟨_, rfl⟩
  have k2 : Keeps Nowhere w1 w2 := by rw [hw2]; exact (Keeps.refl _ _).alloc _
  have hc : Cells w2 b 68 [.pointer none, .pointer none] := by rw [hb, hw2]; exact Cells.new w1 _ _
  have c0 : w2.cell? ⟨b, 0, none⟩ = some (.pointer none) := hc.cell 0
  have H2 := Aside.mk (And.intro (k1.it.trans k2) hc)
  rw [← hb, ← hw2]
  clear hb hw2 k2 hc k1 P
  go_upto_region 2 with (go_at_call 44; refine (C.it w2).mono ?_; rintro e w3 ⟨rfl, k3⟩)
  have c1 : w3.cell? ⟨b, 1, none⟩ = some (.pointer none) := (H2.it.2.later k3 (fun x => x)).cell 1
  clear c0
  go_wp2_with (go_at_call 45; refine (R.it w3).mono ?_; rintro e w4 ⟨rfl, rfl⟩)
  go_end0
  exact ⟨rfl, ⟨H2.it.1.trans k3⟩⟩
set_option maxHeartbeats 2000000 in
theorem next_nil13 (cb ob : Nat) (w : World) :
    Calls Tryd.prog 12 #[.pointer none, .func (.func 36) #[] #[ptr cb, ptr ob]] w fun e w' => e = .returned (.tuple #[.agg zero6.toArray, .bool false]) ∧ Aside (Keeps Nowhere w w') := by
  obtain ⟨b4, hb4⟩ : ∃ b4, b4 = w.heap.size := ⟨_, rfl⟩
  obtain ⟨w1, hw1⟩ : ∃ w1, w1 = w.alloc (.cells #[.int .u8 0, .int .u8 0, .int .u16 0, .int .u32 0, .int .u32 0, .slice none 0 0] 46) := ⟨_, rfl⟩
  have k1 : Keeps Nowhere w w1 := by rw [hw1]; exact (Keeps.refl _ _).alloc _
  have c1 : Cells w1 b4 46 zero6 := by rw [hw1, hb4]; exact Cells.new w _ _
  have P := Aside.mk (parts_nil w1)
  have LN := Aside.mk (fun W => next_nil W)
  have LE := Aside.mk (fun W => Rbuint32.len_nil W)
  have HB4 : Aside (¬ b4 < w.heap.size) := ⟨by omega⟩
  have H := Aside.mk (And.intro c1 k1)
  have nn := Sdat.data_some
  clear c1 k1
  go_enter Tryd.func12, Tryd.ntmps12
  go_upto_region 1 with fail
  rw [← hb4, ← hw1]
  clear hb4 hw1
  go_upto_region 2 with (go_at_call 27; refine P.it.mono ?_; rintro e w2 ⟨rfl, k2⟩)
  obtain ⟨b6, hb6⟩ : ∃ b6, b6 = w2.heap.size := ⟨_, rfl⟩
  obtain ⟨w3, hw3⟩ : ∃ w3, w3 = w2.alloc (.cells #[.pointer none, .pointer none] 68) := ⟨_, rfl⟩
  have k3 : Keeps Nowhere w1 w3 := by rw [hw3]; exact k2.it.alloc _
  have c3 : Cells w3 b6 68 [.pointer none, .pointer none] := by rw [hw3, hb6]; exact Cells.new w2 _ _
  have x0 : w3.cell? ⟨b6, 0, none⟩ = some (.pointer none) := c3.cell 0
  have K3 := Aside.mk (And.intro k3 c3)
  rw [← hb6, ← hw3]
  clear hb6 hw3 k3 c3 k2 P
  go_upto_region 3 with (go_at_call 32; refine (LN.it w3).mono ?_; rintro e w4 ⟨rfl, k4⟩)
  obtain ⟨w5, hw5⟩ : ∃ w5, w5 = w4.alloc (.cells #[.int .i64 0, .int .u32 0, .int .u32 0] 29) := ⟨_, rfl⟩
  have k5 : Keeps Nowhere w3 w5 := by rw [hw5]; exact k4.alloc _
  have c4 := (H.it.1.later K3.it.1 (fun x => x)).later k5 (fun x => x)
  have x1 : w5.cell? ⟨b6, 1, none⟩ = some (.pointer none) := (K3.it.2.later k5 (fun x => x)).cell 1
  obtain ⟨⟨s0, s1, s2, s3, s4, s5⟩, f5⟩ := six_cells c4
  have G := Aside.mk (keeps6 (x0 := .int .u8 0) (x1 := .int .u8 0) (x2 := .int .u16 0) (x3 := .int .u32 0) (x4 := .int .u32 0) (x5 := .slice none 0 0) (H.it.2.trans (K3.it.1.trans k5)) (fun h => absurd h HB4.it))
  rw [← hw5]
  clear hw5 k5 k4 x0 K3 H c4 LN
  go_wp2_with (go_at_call 34; refine (LE.it w5).mono ?_; rintro e w6 ⟨rfl, rfl⟩)
  go_loopw [34] (fun i wr => i = .int .i64 0 ∧ wr = w6) (fun _ _ => 0)
  case atStart => exact ⟨rfl, rfl⟩
  case round =>
    obtain ⟨rfl, hw⟩ := hrel
    subst hw
    go_wp2_with fail
    refine bodyPost_ret (v := .tuple #[.agg zero6.toArray, .bool false]) (by simp [results, Tryd.results12, go_sem, s0, s1, s2, s3, s4, s5]) rfl ?_
    exact ⟨rfl, ⟨G.it⟩⟩
theorem ticket_nil13 (t : Tk) (hs : Sents 140 codeVars A w) :
    Calls Tryd.prog 8 #[.pointer none, tkv t.k t.s t.v] w fun e w' => ∃ x, e = .returned x ∧ Hid (Coded A x 1) ∧ Aside (Keeps Nowhere w w') := by
  obtain ⟨b, hb⟩ : ∃ b, b = w.heap.size := ⟨_, rfl⟩
  obtain ⟨w1, hw1⟩ : ∃ w1, w1 = w.alloc (.cells #[.int .i64 t.k, .int .u32 t.s, .int .u32 t.v] 29) := ⟨_, rfl⟩
  have k1 : Keeps Nowhere w w1 := by rw [hw1]; exact (Keeps.refl _ _).alloc _
  have hc : Cells w1 b 29 (tcells t) := by rw [hb, hw1]; exact Cells.new w _ _
  have P : Aside (∀ W, Aside (Keeps Nowhere w W) → Aside (Cells W b 29 (tcells t)) → Calls Tryd.prog 27 #[.pointer none] W fun e w' => e = .returned (.agg #[.pointer none, .pointer none]) ∧ Aside (Keeps Nowhere w w') ∧ Aside (Cells w' b 29 (tcells t))) := ⟨fun W k c => by
    refine (parts_nil W).mono ?_
    rintro e w' ⟨rfl, kk⟩
    exact ⟨rfl, ⟨k.it.trans kk.it⟩, ⟨c.it.later kk.it (fun x => x)⟩⟩⟩
  have C : Aside (∀ W, Aside (Keeps Nowhere w W) → Aside (Cells W b 29 (tcells t)) → Calls Tryd.prog 28 #[.pointer none, tkv t.k t.s t.v] W fun e w' => ∃ x, e = .returned x ∧ Hid (Coded A x 1) ∧ Aside (Keeps Nowhere w w') ∧ Aside (Cells w' b 29 (tcells t))) := ⟨fun W k c => by
    refine (put_nil (A := A) t (hs.later k.it.bel)).mono ?_
    rintro e w' ⟨x, rfl, hx, kk⟩
    exact ⟨x, rfl, hx, ⟨k.it.trans kk⟩, ⟨c.it.later kk (fun x => x)⟩⟩⟩
  have K1 := Aside.mk k1.drew
  have B1 := Aside.mk (Cells.drew hc)
  have F0 := sc_f0 none none
  clear k1 hc hs
  go_enter Tryd.func8, Tryd.ntmps8
  go_upto_region 1 with fail
  rw [← hb, ← hw1]
  clear hb hw1
  go_region_held_law (fun W => W.cell? ⟨b, 0, none⟩ = some (.int .i64 t.k) ∧ W.cell? ⟨b, 1, none⟩ = some (.int .u32 t.s) ∧ W.cell? ⟨b, 2, none⟩ = some (.int .u32 t.v)) (exact b3 (by with_reducible assumption)) (first
    | (go_at_call 28; with_reducible refine (C.it _ (by with_reducible assumption) (by with_reducible assumption)).mono ?_; rintro e w3 ⟨x, rfl, hx, H3, B3⟩)
    | (go_at_call 27; with_reducible refine (P.it _ (by with_reducible assumption) (by with_reducible assumption)).mono ?_; rintro e w2 ⟨rfl, K2, B2⟩))
  all_goals go_wp2_with fail
  all_goals go_ret
  all_goals exact ⟨x, rfl, hx, H3⟩
end Go.Proofs.YtnohcbdnhpaafaaDoor

/-
  SchedOwn's world
-/
namespace Go.Proofs.YtnohcbdnhpaafaaDoor
open Go.RowKit

variable {A : Nat → Addr} {w w' w0 W : World} {own own' : Nat → Nat} {I : Nat → Prop} {s m bx o : Nat} {L La Lb l : List Tk} {ks X Y : List Nat} {v va vb vt vx vy vu : Value}

theorem same_tks (a b : Value) (L : List Tk) (ha : RdT w a L) (hb : RdT w b L) : Calls Tryd.prog 20 #[a, b] w fun e w' => e = .returned (.bool true) ∧ Aside (Keeps Nowhere w w') := by
  obtain ⟨qa, ca, rfl, hla, hma, ha⟩ := ha.at
  obtain ⟨qb, cb, rfl, hlb, hmb, hb⟩ := hb.at
  obtain ⟨N, hN⟩ : ∃ N, N = L.length := ⟨_, rfl⟩
  rw [← hN] at hla hlb ⊢
  have HN := Aside.mk hN
  have HA := Aside.mk ha
  have HB := Aside.mk hb
  have hn1 : (N : Int) ≤ 9223372036854775807 := by unfold maxLen at hma; omega
  clear hN ha hb hma hmb
  go_enter Tryd.func20, Tryd.ntmps20
  go_wp2_with fail
  go_loopw [5] (fun i wr => ∃ j : Nat, i = .int .i64 j ∧ j ≤ N ∧ Aside (Keeps Nowhere w wr)) (fun i _ => N - (intOf i).toNat)
  case atStart => exact ⟨0, rfl, Nat.zero_le _, ⟨Keeps.refl _ _⟩⟩
  case round =>
    obtain ⟨j, rfl, hj, hk⟩ := hrel
    rcases Nat.eq_or_lt_of_le hj with rfl | hlt
    · go_wp2
      go_ret
      exact ⟨rfl, hk⟩
    · obtain ⟨t, ht⟩ : ∃ t, L[j]? = some t := ⟨_, List.getElem?_eq_getElem (by rw [← HN.it]; exact hlt)⟩
      obtain ⟨g, o, rfl, a0, a1, a2⟩ := HA.it j t ht
      obtain ⟨g2, o2, rfl, b0, b1, b2⟩ := HB.it j t ht
      have ev : ∀ {p v}, w.cell? p = some v → wr.cell? p = some v := fun {p v} h => by rw [World.cell?_of_block (hk.it.block _ (World.block_lt_of_cell? w _ h) (fun x => x))]; exact h
      have c0 := ev a0
      have c1 := ev a1
      have c2 := ev a2
      have d0 := ev b0
      have d1 := ev b1
      have d2 := ev b2
      have EQ := fun w => tk_neq w t.k t.k t.s t.s t.v t.v
      simp only [and_self, decide_true, Bool.not_true] at EQ
      have l1 : (j : Int) < N := by omega
      have l2 : (0 : Int) ≤ j := by omega
      clear a0 a1 a2 b0 b1 b2 ht ev
      go_wp2_with fail
      go_region
      go_wp2
      go_roundw
      case rel => exact ⟨j + 1, by go_num, by omega, ⟨hk.it.drew⟩⟩
      case measure => simp [intOf]; omega

theorem flatT_put13 (l : List Tk) (i : Nat) (t : Tk) (hi : i < l.length) : flatT (l.set i t) = (((flatT l).set (i * 3) (.int .i64 t.k)).set (i * 3 + 1) (.int .u32 t.s)).set (i * 3 + 2) (.int .u32 t.v) := by
  induction l generalizing i with
  | nil => simp at hi
  | cons x l ih =>
    cases i with
    | zero => simp [flatT, tcells]
    | succ i =>
      have := ih i (by simpa using hi)
      simp only [List.set_cons_succ, flatT, List.flatMap_cons] at this ⊢
      rw [this]
      simp only [tcells, List.cons_append, List.nil_append, Nat.add_mul, Nat.one_mul]
      rfl
/-- a ticket is written over -/
theorem OwR.putT (h : OwR own o w 29 3 v l.length (flatT l)) {i : Nat} (hi : i < l.length) (t : Tk) : ∃ b c, v = .slice (some ⟨b, 0, none⟩) l.length c ∧ (∀ j, w.frozen? ⟨b, j, none⟩ = false) ∧ (∃ u0 u1 u2, w.cell? ⟨b, i * 3, none⟩ = some u0 ∧ w.cell? ⟨b, i * 3 + 1, none⟩ = some u1 ∧ w.cell? ⟨b, i * 3 + 2, none⟩ = some u2) ∧
    (∀ w', w' = ((w.setCell ⟨b, i * 3, none⟩ (.int .i64 t.k)).setCell ⟨b, i * 3 + 1, none⟩ (.int .u32 t.s)).setCell ⟨b, i * 3 + 2, none⟩ (.int .u32 t.v) → OwR own o w' 29 3 v (l.set i t).length (flatT (l.set i t)) ∧ Sn (fun q => q = o) own w own w') := by
  obtain ⟨ho, hb⟩ := h
  rcases id ho.2 with ⟨rfl, x⟩ | ⟨b, c, cur, rfl, _⟩
  · omega
  · obtain ⟨a', c', e, _, _, hat⟩ := RdT.at (owns_readsK ho)
    obtain ⟨g2, o2, e2, c0, c1, c2⟩ := hat i l[i] (List.getElem?_eq_getElem hi)
    injection e with e3 e4 e5
    rw [← e3] at e2
    injection e2 with e2
    injection e2 with e6 e7
    subst e6 e7
    rw [Nat.zero_add] at c0 c1 c2
    refine ⟨b, c, rfl, fun j => owns_frozen ho j, ⟨_, _, _, c0, c1, c2⟩, fun w' hw => ?_⟩
    have hb' := hb b rfl
    have K : Keeps (fun q => own q = o) w w' := by
      subst hw
      exact (((Keeps.refl _ _).setCell _ _ (fun _ => hb'.1)).setCell _ _ (fun _ => hb'.1)).setCell _ _ (fun _ => hb'.1)
    have o3 := owns_setCell (owns_setCell (owns_setCell ho (i * 3) (by omega) (.int .i64 t.k)) (i * 3 + 1) (by omega) (.int .u32 t.s)) (i * 3 + 2) (by omega) (.int .u32 t.v)
    rw [← flatT_put13 l i t hi, ← hw] at o3
    refine ⟨⟨by rw [List.length_set]; exact o3, fun q hq => ⟨(hb q hq).1, Nat.lt_of_lt_of_le (hb q hq).2 K.size⟩⟩, ⟨fun _ _ => rfl, K⟩⟩
/-- a number is written over -/
theorem OwR.putU (h : OwR own o w 27 1 v X.length (uv X)) {i : Nat} (hi : i < X.length) (k : Nat) : ∃ b c, v = .slice (some ⟨b, 0, none⟩) X.length c ∧ w.frozen? ⟨b, i, none⟩ = false ∧ (∃ u, w.cell? ⟨b, i, none⟩ = some u) ∧
    (∀ w', w' = w.setCell ⟨b, i, none⟩ (.int .u32 k) → OwR own o w' 27 1 v (X.set i k).length (uv (X.set i k)) ∧ Sn (fun q => q = o) own w own w') := by
  obtain ⟨ho, hb⟩ := h
  rcases id ho.2 with ⟨rfl, x⟩ | ⟨b, c, cur, rfl, _⟩
  · omega
  · obtain ⟨a', c', e, _, _, hat⟩ := owns_rdU ho
    obtain ⟨g2, o2, e2, c0⟩ := hat i X[i] (List.getElem?_eq_getElem hi)
    injection e with e3 e4 e5
    rw [← e3] at e2
    injection e2 with e2
    injection e2 with e6 e7
    subst e6 e7
    rw [Nat.zero_add] at c0
    refine ⟨b, c, rfl, owns_frozen ho i, ⟨_, c0⟩, fun w' hw => ?_⟩
    have hb' := hb b rfl
    have K : Keeps (fun q => own q = o) w w' := by
      subst hw
      exact (Keeps.refl _ _).setCell _ _ (fun _ => hb'.1)
    have o3 := owns_setCell ho i (by omega) (.int .u32 k)
    have eu : (uv X).set i (.int .u32 k) = uv (X.set i k) := by simp [uv, List.map_set]
    rw [eu, ← hw] at o3
    refine ⟨⟨by rw [List.length_set]; exact o3, fun q hq => ⟨(hb q hq).1, Nat.lt_of_lt_of_le (hb q hq).2 K.size⟩⟩, ⟨fun _ _ => rfl, K⟩⟩

/-- the scheduler, and the lists: a 20, b 21, tickets 22, x 23 in its box 30, y 24, turns 25 -/
structure Oz (A : Nat → Addr) (w0 : World) (s : Nat) (L : List Tk) (m : Nat) (ks : List Nat) (va : Value) (La : List Tk) (vb : Value) (Lb : List Tk) (vt : Value) (bx : Nat) (vx : Value) (X : List Nat) (vy : Value) (Y : List Nat) (vu : Value) (own : Nat → Nat) (W : World) : Prop where
  sc : Sc A w0 own W s L m ks
  a : OwR own 20 W 29 3 va La.length (flatT La)
  b : OwR own 21 W 29 3 vb Lb.length (flatT Lb)
  t : OwR own 22 W 29 3 vt L.length (flatT L)
  bx : CellsO own 30 W bx 39 [vx]
  x : OwR own 23 W 27 1 vx X.length (uv X)
  y : OwR own 24 W 27 1 vy Y.length (uv Y)
  u : OwR own 25 W 27 1 vu ks.length (uv ks)
theorem Oz.sn (h : Oz A w0 s L m ks va La vb Lb vt bx vx X vy Y vu own w) (q : Sn I own w own' w') (hi : ∀ k, k ≤ 6 → ¬ I k) (h2 : ∀ k, 20 ≤ k → ¬ I k) : Oz A w0 s L m ks va La vb Lb vt bx vx X vy Y vu own' w' :=
  ⟨h.sc.sn q (hi 0 (by omega)) (fun k hk => hi k hk.2), h.a.sn q (h2 _ (by omega)), h.b.sn q (h2 _ (by omega)), h.t.sn q (h2 _ (by omega)), h.bx.sn q (h2 _ (by omega)), h.x.sn q (h2 _ (by omega)), h.y.sn q (h2 _ (by omega)), h.u.sn q (h2 _ (by omega))⟩
theorem Oz.idle (h : Oz A w0 s L m ks va La vb Lb vt bx vx X vy Y vu own w) (q : Sn (fun _ => False) own w own' w') : Oz A w0 s L m ks va La vb Lb vt bx vx X vy Y vu own' w' := h.sn q (fun _ _ x => x) (fun _ _ x => x)
theorem Oz.quiet (h : Oz A w0 s L m ks va La vb Lb vt bx vx X vy Y vu own w) (k : Keeps Nowhere w w') : Oz A w0 s L m ks va La vb Lb vt bx vx X vy Y vu own w' := h.idle (Sn.same k)
theorem Oz.setA {va' : Value} {La' : List Tk} (h : Oz A w0 s L m ks va La vb Lb vt bx vx X vy Y vu own w) (q : Sn (fun k => k = 20) own w own' w') (a : OwR own' 20 w' 29 3 va' La'.length (flatT La')) : Oz A w0 s L m ks va' La' vb Lb vt bx vx X vy Y vu own' w' :=
  ⟨h.sc.sn q (by omega) (fun k hk => by have := hk.2; omega), a, h.b.sn q (by omega), h.t.sn q (by omega), h.bx.sn q (by omega), h.x.sn q (by omega), h.y.sn q (by omega), h.u.sn q (by omega)⟩
theorem Oz.setB {vb' : Value} {Lb' : List Tk} (h : Oz A w0 s L m ks va La vb Lb vt bx vx X vy Y vu own w) (q : Sn (fun k => k = 21) own w own' w') (b : OwR own' 21 w' 29 3 vb' Lb'.length (flatT Lb')) : Oz A w0 s L m ks va La vb' Lb' vt bx vx X vy Y vu own' w' :=
  ⟨h.sc.sn q (by omega) (fun k hk => by have := hk.2; omega), h.a.sn q (by omega), b, h.t.sn q (by omega), h.bx.sn q (by omega), h.x.sn q (by omega), h.y.sn q (by omega), h.u.sn q (by omega)⟩
theorem Oz.setY {vy' : Value} {Y' : List Nat} (h : Oz A w0 s L m ks va La vb Lb vt bx vx X vy Y vu own w) (q : Sn (fun k => k = 24) own w own' w') (y : OwR own' 24 w' 27 1 vy' Y'.length (uv Y')) : Oz A w0 s L m ks va La vb Lb vt bx vx X vy' Y' vu own' w' :=
  ⟨h.sc.sn q (by omega) (fun k hk => by have := hk.2; omega), h.a.sn q (by omega), h.b.sn q (by omega), h.t.sn q (by omega), h.bx.sn q (by omega), h.x.sn q (by omega), y, h.u.sn q (by omega)⟩
theorem Oz.setX {X' : List Nat} (h : Oz A w0 s L m ks va La vb Lb vt bx vx X vy Y vu own w) (q : Sn (fun k => k = 23) own w own' w') (x : OwR own' 23 w' 27 1 vx X'.length (uv X')) : Oz A w0 s L m ks va La vb Lb vt bx vx X' vy Y vu own' w' :=
  ⟨h.sc.sn q (by omega) (fun k hk => by have := hk.2; omega), h.a.sn q (by omega), h.b.sn q (by omega), h.t.sn q (by omega), h.bx.sn q (by omega), x, h.y.sn q (by omega), h.u.sn q (by omega)⟩
/-- x grows, and its box names it -/
theorem Oz.growX {vx' : Value} {X' : List Nat} {w2 : World} (h : Oz A w0 s L m ks va La vb Lb vt bx vx X vy Y vu own w) (q : Sn (fun k => k = 23) own w own' w') (x : OwR own' 23 w' 27 1 vx' X'.length (uv X')) (hw : w2 = w'.setCell ⟨bx, 0, none⟩ vx') : Oz A w0 s L m ks va La vb Lb vt bx vx' X' vy Y vu own' w2 := by
  have c := h.bx.sn q (by omega)
  have q2 : Sn (fun k => k = 30) own' w' own' w2 := by rw [hw]; exact ⟨fun _ _ => rfl, (Keeps.refl _ _).setCell _ _ (fun _ => c.2)⟩
  exact ⟨(h.sc.sn q (by omega) (fun k hk => by have := hk.2; omega)).sn q2 (by omega) (fun k hk => by have := hk.2; omega), (h.a.sn q (by omega)).sn q2 (by omega), (h.b.sn q (by omega)).sn q2 (by omega), (h.t.sn q (by omega)).sn q2 (by omega), by rw [hw]; exact ⟨c.1.setCell 0 vx', c.2⟩, x.sn q2 (by omega), (h.y.sn q (by omega)).sn q2 (by omega), (h.u.sn q (by omega)).sn q2 (by omega)⟩
end Go.Proofs.YtnohcbdnhpaafaaDoor

/-
  SchedOwn
-/
namespace Go.Proofs.YtnohcbdnhpaafaaDoor
open Go.RowKit

theorem lit0 (w : World) (e : TypeId) (k : Nat) : (w.alloc (.cells #[] e)).ownsRow w.heap.size e k (.slice (some ⟨w.heap.size, 0, none⟩) 0 0) 0 [] :=
  ⟨by simp, .inr ⟨w.heap.size, 0, #[], rfl, Nat.le_refl _, Cells.new w e [], Nat.le_refl _, Nat.zero_le _, by simp, by simp⟩⟩
theorem flatT_one13 (L : List Tk) : ∀ u ∈ flatT L, u.oneCell' = true := by
  intro u hu
  unfold flatT at hu
  obtain ⟨t, _, hu⟩ := List.mem_flatMap.1 hu
  simp only [tcells, List.mem_cons, List.not_mem_nil, or_false] at hu
  rcases hu with rfl | rfl | rfl <;> rfl
theorem uv_one (l : List Nat) : ∀ u ∈ uv l, u.oneCell' = true := by
  intro u hu
  obtain ⟨k, _, rfl⟩ := List.mem_map.1 hu
  rfl
theorem lit_keeps {w W w' : World} {e : TypeId} (hW : W = w.alloc (.cells #[] e)) (k : Keeps (fun b => (Value.slice (some ⟨w.heap.size, 0, none⟩) 0 0).ownBlock = some b) W w') : Keeps Nowhere w w' := by
  subst hW
  refine ((Keeps.refl Nowhere w).alloc _).next k (fun b hb hlt => ?_)
  simp only [Value.ownBlock, Option.some.injEq] at hb
  omega
theorem infoT13 : (Tryd.prog.info? 29).map (fun i => (i.zero, i.size, i.bytes)) = some (some (.agg #[.int .i64 0, .int .u32 0, .int .u32 0]), 3, 16) := by kernel_rfl

theorem data_any (ab : Nat) (w : World) : Calls Tryd.prog 13 #[.agg #[.int .i64 0, .int .i64 0, .int .u32 0, .int .u32 0, .int .u32 0, .slice none 0 0, .slice none 0 0], ptr ab] w fun e w' => ∃ cb ob, e = .returned (.func (.func 36) #[] #[ptr cb, ptr ob]) ∧ Aside (Keeps Nowhere w w') := by
  go_enter Tryd.func13, Tryd.ntmps13
  go_wp2
  go_ret
  exact ⟨_, _, rfl, ⟨((Keeps.refl _ _).alloc _).alloc _⟩⟩
def t98 : Tk := ⟨98, 0, 0⟩
def t97 : Tk := ⟨97, 0, 0⟩
theorem flatT_more (l : List Tk) (t : Tk) : flatT (l ++ [t]) = flatT l ++ tcells t := by simp [flatT]
theorem uv_more (l : List Nat) (k : Nat) : uv (l ++ [k]) = uv l ++ [.int .u32 k] := by simp [uv]
theorem rep_more {α : Type} (l : List α) (t : α) (q : Nat) : (l ++ List.replicate q t) ++ [t] = l ++ List.replicate (q + 1) t := by rw [List.append_assoc, ← List.replicate_succ']
theorem rep_at {α : Type} (l : List α) (t : α) (n q m : Nat) (hl : l.length = n) (hq : q < m) : (l ++ List.replicate m t)[n + q]? = some t := by
  rw [List.getElem?_append_right (by omega), hl, Nat.add_sub_cancel_left, List.getElem?_replicate, if_pos hq]

set_option maxRecDepth 8000 in
set_option maxHeartbeats 16000000 in
theorem schedOwn_walk {A : Nat → Addr} (v : Value) (zs : List OpV13) (w : World) (h : St11 A w) (hz : Ops13Arg w v zs) :
    Calls Tryd.prog 5 #[v] w fun e w' => e = .returned (.bool true) ∧ Below w.heap.size w w' := by
  obtain ⟨hz, hzb⟩ := hz
  obtain ⟨sa, cap, rfl, hlc, hcm, hat⟩ := hz
  have HAT := Aside.mk hat
  obtain ⟨M, hM⟩ : ∃ M, M = zs.length := ⟨_, rfl⟩
  rw [← hM] at hlc hzb ⊢
  have HM := Aside.mk hM
  have hMb : (M : Int) ≤ 1759218604390 := by omega
  have hMc : (M : Int) ≤ cap := by omega
  have FX := Aside.mk (awake13 h)
  clear h hM hcm hat hzb
  go_enter Tryd.func5, Tryd.ntmps5
  go_upto_block 0 with (first
    | (go_at_call 6; refine FX.it.mono ?_; rintro e w1 ⟨rfl, k1⟩; obtain ⟨own1, g1⟩ := k1.it; have NW := Aside.mk (new_sc g1))
    | (go_at_call 7; refine NW.it.mono ?_; rintro e w2 ⟨s, own2, rfl, L2⟩)
    | fail)
  clear FX NW k1 g1
  go_cut [5] (fun iv wx => ∃ (q m : Nat) (L : List Tk) (ks : List Nat) (own : Nat → Nat), iv = .int .i64 q ∧ Aside (Sc A w own wx s L m ks) ∧ Aside (m ≤ M ∧ ks.length ≤ M))
  case first =>
    go_wp2_with fail
    go_loopw [5] (fun iv wr => ∃ (q m : Nat) (L : List Tk) (ks : List Nat) (own : Nat → Nat), iv = .int .i64 q ∧ q ≤ M ∧ Aside (Sc A w own wr s L m ks) ∧ Aside (m ≤ q ∧ ks.length ≤ q)) (fun iv _ => M - (intOf iv).toNat)
    case atStart => exact ⟨0, 0, [], [], own2, rfl, Nat.zero_le _, L2, ⟨Nat.le_refl _, Nat.le_refl _⟩⟩
    case round =>
      obtain ⟨q, m, L, ks, own3, rfl, hq, L3, K3⟩ := hrel
      clear L2
      by_cases h1 : q < M
      · have h1' : (q : Int) < M := by omega
        obtain ⟨z, hk⟩ : ∃ z, zs[q]? = some z := ⟨_, List.getElem?_eq_getElem (by rw [← HM.it]; exact h1)⟩
        obtain ⟨b, o, cs, rfl, hok, hcl, hc⟩ := HAT.it q z hk
        have htw := hok.t
        have hid := hok.i
        obtain ⟨oa, oc, eo, _⟩ := hok.o
        obtain ⟨ma, mc, em, _⟩ := hok.m
        have ecs := hok.e
        subst ecs
        have bel := L3.it.bel
        have r : ∀ j u, j < 7 → z.cells[j]? = some u → wr.cell? ⟨b, o + q * 7 + j, none⟩ = some u := by
          intro j u hj hu
          have := (hc j hj).trans hu
          rw [bel.cell (World.block_lt_of_cell? w _ this)]; exact this
        have r0 : wr.cell? ⟨b, o + q * 7, none⟩ = some (.int .i64 z.kind) := r 0 _ (by decide) rfl
        have r1 := r 1 (.int .i64 z.t.k) (by decide) rfl
        have r2 := r 2 (.int .u32 z.t.s) (by decide) rfl
        have r3 := r 3 (.int .u32 z.t.v) (by decide) rfl
        have r4 := r 4 (.int .u32 z.id) (by decide) rfl
        have r5 := r 5 z.vo (by decide) rfl
        have r6 := r 6 z.vm (by decide) rfl
        have HW := Aside.mk (And.intro htw hid)
        clear hc hcl bel hk htw hid r
        rw [eo] at r5
        rw [em] at r6
        clear hok eo em
        obtain ⟨kind, t, id, vo, vm, bo, bm⟩ := z
        simp only [List.length_map] at r0 r1 r2 r3 r4 r5 r6 HW
        generalize bo.length = ol at r5
        generalize bm.length = ml at r6
        go_upto_region 9 with fail
        obtain ⟨b5, hb5⟩ : ∃ b, b = wr.heap.size := ⟨_, rfl⟩
        obtain ⟨w5, hw5⟩ : ∃ w5, w5 = wr.alloc (.cells #[.int .i64 kind, .int .i64 t.k, .int .u32 t.s, .int .u32 t.v, .int .u32 id, .slice oa ol oc, .slice ma ml mc] 32) := ⟨_, rfl⟩
        obtain ⟨own5, ho5⟩ : ∃ own5, own5 = give own3 wr.heap.size 11 := ⟨_, rfl⟩
        have q5 : Sn (fun _ => False) own3 wr own5 w5 := by rw [hw5, ho5]; exact Sn.quiet ((Keeps.refl _ _).alloc _) 11
        have C5 : Aside (CellsO own5 11 w5 b5 32 [.int .i64 kind, .int .i64 t.k, .int .u32 t.s, .int .u32 t.v, .int .u32 id, .slice oa ol oc, .slice ma ml mc]) := ⟨by rw [hw5, hb5, ho5]; exact ⟨Cells.new wr _ _, give_new (Nat.le_refl _)⟩⟩
        have u0 : w5.cell? ⟨b5, 0, none⟩ = some (.int .i64 kind) := C5.it.1.cell 0
        have L5 : Aside (Sc A w own5 w5 s L m ks) := ⟨L3.it.sn q5 (fun x => x) (fun _ _ x => x)⟩
        rw [← hb5, ← hw5]
        clear hb5 hw5 q5 ho5 r0 r1 r2 r3 r4 r5 r6 L3
        by_cases e1 : kind = 1
        · subst e1
          have u1 : w5.cell? ⟨b5, 1, none⟩ = some (.int .i64 t.k) := C5.it.1.cell 1
          have u2 : w5.cell? ⟨b5, 2, none⟩ = some (.int .u32 t.s) := C5.it.1.cell 2
          have u3 : w5.cell? ⟨b5, 3, none⟩ = some (.int .u32 t.v) := C5.it.1.cell 3
          have TK := Aside.mk (ticket_sc L5.it t HW.it.1 (by have := K3.it.1; omega))
          go_upto_region 11 with (first
            | (go_at_call 8; refine TK.it.mono ?_; rintro e w6 ⟨x6, own6, rfl, hx6, L6, q6⟩)
            | fail)
          have c6 := (C5.it.sn q6.it (fun x => by have := x.2; omega)).1
          have v1 : w6.cell? ⟨b5, 1, none⟩ = some (.int .i64 t.k) := c6.cell 1
          have v2 : w6.cell? ⟨b5, 2, none⟩ = some (.int .u32 t.s) := c6.cell 2
          have v3 : w6.cell? ⟨b5, 3, none⟩ = some (.int .u32 t.v) := c6.cell 3
          obtain ⟨p6, r6, h6⟩ := L6.it
          have NT := Aside.mk (ticket_nil13 (A := A) t h6.ln.g.st.s)
          have CD : Aside (∀ W x, Keeps Nowhere w6 W → Coded A x 1 → Calls Tryd.prog 16 #[x] W fun e w' => e = .returned (.int .i64 1) ∧ W = w') := ⟨fun W x k hx => (code_of (h6.ln.g.st.s.later k.bel) hx).mono (fun e w' y => ⟨y.1, y.2.symm⟩)⟩
          clear c6 h6 TK u0 u1 u2 u3 C5
          go_wp2_with (first
            | (go_at_call 16; refine (CD.it w7 x7 k7.it hx7).mono ?_; rintro e w8 ⟨rfl, rfl⟩)
            | (go_at_call 8; refine NT.it.mono ?_; rintro e w7 ⟨x7, rfl, hx7, k7⟩)
            | fail)
          go_roundw
          case rel => exact ⟨q + 1, m + 1, _, ks, own6, by go_num, by omega, ⟨L6.it.quiet k7.it⟩, ⟨by have := K3.it.1; omega, by have := K3.it.2; omega⟩⟩
          case measure => simp [intOf]; omega
        · have u4 : w5.cell? ⟨b5, 4, none⟩ = some (.int .u32 id) := C5.it.1.cell 4
          have RD := Aside.mk (ready_sc L5.it id HW.it.2 (by have := K3.it.2; unfold maxLen; omega))
          go_upto_region 14 with (first
            | (go_at_call 9; refine RD.it.mono ?_; rintro e w6 ⟨own6, rfl, L6, q6⟩)
            | fail)
          have c6 := (C5.it.sn q6.it (fun x => by have := x.2; omega)).1
          have CE : Aside (∀ W, Keeps Nowhere w6 W → W.cell? ⟨b5, 4, none⟩ = some (.int .u32 id) ∧ W.cell? ⟨b5, 1, none⟩ = some (.int .i64 t.k)) := ⟨fun W k => ⟨(c6.later k (fun x => x)).cell 4, (c6.later k (fun x => x)).cell 1⟩⟩
          have v4 := (CE.it w6 (Keeps.refl _ _)).1
          clear c6 RD u0 u4 C5
          go_wp2_with (first
            | (go_at_call 19; refine (withdraw_nil13 t.k id w9).mono ?_; rintro e wa ⟨rfl, ka⟩)
            | (go_at_call 18; refine (forget_nil13 id w8).mono ?_; rintro e w9 ⟨rfl, k9⟩; have K9 := Aside.mk (K8.it.trans k9.it); have y4 := (CE.it w9 K9.it).1; have y1 := (CE.it w9 K9.it).2)
            | (go_at_call 17; refine (rest_nil13 id w7).mono ?_; rintro e w8 ⟨rfl, k8⟩; have K8 := Aside.mk (k7.it.trans k8.it); have x4 := (CE.it w8 K8.it).1)
            | (go_at_call 9; refine (ready_nil13 id w6).mono ?_; rintro e w7 ⟨rfl, k7⟩; have z4 := (CE.it w7 k7.it).1)
            | fail)
          go_roundw
          case rel => exact ⟨q + 1, m, L, _, own6, by go_num, by omega, ⟨L6.it.quiet (K9.it.trans ka.it)⟩, ⟨by have := K3.it.1; omega, by have := K3.it.2; have := addL_len ks id; omega⟩⟩
          case measure => simp [intOf]; omega
      · have h1' : ¬ (q : Int) < M := by omega
        go_wp2_with fail
        go_meet
        case rel => exact ⟨q, m, L, ks, own3, rfl, L3, ⟨by have := K3.it.1; omega, by have := K3.it.2; omega⟩⟩
  case rest =>
    obtain ⟨q0, m, L, ks, own3, rfl, L3, K3⟩ := hcut
    clear L2
    have hkq : (ks.length : Int) ≤ 1759218604390 := by have := K3.it.2; omega
    have hmq : (L.length : Int) ≤ 1759218604390 := by have := K3.it.1; have := L3.it.bound; omega
    have TI := Aside.mk (fun W (k : Keeps Nowhere wc W) => tickets_sl (L3.it.quiet k) (by have := K3.it.1; omega))
    have TU := Aside.mk (fun W (k : Keeps Nowhere wc W) => turns_sl (L3.it.quiet k) (by omega))
    go_upto_region 17 with (first
      | (go_at_call 11; refine (TU.it w6 K6.it).mono ?_; rintro e w7 ⟨ya, yc, rfl, o7, k7⟩)
      | (go_at_call 11; refine (TU.it w5 K5.it).mono ?_; rintro e w6 ⟨xa, xc, rfl, o6, k6⟩; have K6 := Aside.mk (K5.it.trans k6.it))
      | (go_at_call 10; refine (TI.it w4 k4.it).mono ?_; rintro e w5 ⟨ba, bc, rfl, o5, k5⟩; have K5 := Aside.mk (k4.it.trans k5.it))
      | (go_at_call 10; refine (TI.it wc (Keeps.refl _ _)).mono ?_; rintro e w4 ⟨aa, ac, rfl, o4, k4⟩)
      | fail)
    obtain ⟨n, hn⟩ : ∃ n, n = L.length := ⟨_, rfl⟩
    obtain ⟨n2, hn2⟩ : ∃ n2, n2 = ks.length := ⟨_, rfl⟩
    rw [← hn] at o4 o5 hmq ⊢
    rw [← hn2] at o6 o7 hkq ⊢
    have HN := Aside.mk (And.intro hn hn2)
    clear hn hn2
    obtain ⟨bx, hbx⟩ : ∃ b, b = w7.heap.size := ⟨_, rfl⟩
    obtain ⟨w8, hw8⟩ : ∃ w8, w8 = w7.alloc (.cells #[.slice xa n2 xc] 39) := ⟨_, rfl⟩
    obtain ⟨own8, Z8⟩ : ∃ own8, Aside (Sc A w own8 w8 s L m ks ∧ OwR own8 20 w8 29 3 (.slice aa n ac) L.length (flatT L) ∧ OwR own8 21 w8 29 3 (.slice ba n bc) L.length (flatT L) ∧ OwR own8 23 w8 27 1 (.slice xa n2 xc) ks.length (uv ks) ∧ OwR own8 24 w8 27 1 (.slice ya n2 yc) ks.length (uv ks) ∧ CellsO own8 30 w8 bx 39 [.slice xa n2 xc]) := by
      have q4 : Sn (fun _ => False) own3 wc (give own3 wc.heap.size 20) w4 := Sn.quiet k4.it 20
      have a4 : OwR (give own3 wc.heap.size 20) 20 w4 29 3 (.slice aa n ac) L.length (flatT L) := OwR.new (by rw [← HN.it.1]; exact o4.it)
      have s4 := L3.it.sn q4 (fun x => x) (fun _ _ x => x)
      generalize give own3 wc.heap.size 20 = own4 at q4 a4 s4
      have q5 : Sn (fun _ => False) own4 w4 (give own4 w4.heap.size 21) w5 := Sn.quiet k5.it 21
      have a5 : OwR (give own4 w4.heap.size 21) 21 w5 29 3 (.slice ba n bc) L.length (flatT L) := OwR.new (by rw [← HN.it.1]; exact o5.it)
      have s5 := s4.sn q5 (fun x => x) (fun _ _ x => x)
      have a4 := a4.sn q5 (fun x => x)
      generalize give own4 w4.heap.size 21 = own5 at q5 a5 s5 a4
      have q6 : Sn (fun _ => False) own5 w5 (give own5 w5.heap.size 23) w6 := Sn.quiet k6.it 23
      have a6 : OwR (give own5 w5.heap.size 23) 23 w6 27 1 (.slice xa n2 xc) ks.length (uv ks) := OwR.new (by rw [← HN.it.2]; exact o6.it)
      have s6 := s5.sn q6 (fun x => x) (fun _ _ x => x)
      have a4 := a4.sn q6 (fun x => x)
      have a5 := a5.sn q6 (fun x => x)
      generalize give own5 w5.heap.size 23 = own6 at q6 a6 s6 a4 a5
      have q7 : Sn (fun _ => False) own6 w6 (give own6 w6.heap.size 24) w7 := Sn.quiet k7.it 24
      have a7 : OwR (give own6 w6.heap.size 24) 24 w7 27 1 (.slice ya n2 yc) ks.length (uv ks) := OwR.new (by rw [← HN.it.2]; exact o7.it)
      have s7 := s6.sn q7 (fun x => x) (fun _ _ x => x)
      have a4 := a4.sn q7 (fun x => x)
      have a5 := a5.sn q7 (fun x => x)
      have a6 := a6.sn q7 (fun x => x)
      generalize give own6 w6.heap.size 24 = own7 at q7 a7 s7 a4 a5 a6
      have q8 : Sn (fun _ => False) own7 w7 (give own7 w7.heap.size 30) w8 := by rw [hw8]; exact Sn.quiet ((Keeps.refl _ _).alloc _) 30
      exact ⟨_, ⟨s7.sn q8 (fun x => x) (fun _ _ x => x), a4.sn q8 (fun x => x), a5.sn q8 (fun x => x), a6.sn q8 (fun x => x), a7.sn q8 (fun x => x), by rw [hw8, hbx]; exact ⟨Cells.new w7 _ _, give_new (Nat.le_refl _)⟩⟩⟩
    rw [← hbx, ← hw8]
    clear hbx hw8 o4 o5 o6 o7 k4 k5 k6 k7 K5 K6 TI TU L3
    have RB : Aside (ReadsK 3 (w8.alloc (.cells #[] 29)) (.slice ba n bc) n (flatT L)) := ⟨(by have := owns_readsK Z8.it.2.2.1.1; rw [← HN.it.1] at this; exact this.later ((Keeps.refl Nowhere _).alloc _) (fun _ _ x => x))⟩
    have RY : Aside (∀ W, Keeps Nowhere w8 W → ReadsK 1 (W.alloc (.cells #[] 27)) (.slice ya n2 yc) n2 (uv ks)) := ⟨fun W k => by have := owns_readsK Z8.it.2.2.2.2.1.1; rw [← HN.it.2] at this; exact (this.later k (fun _ _ x => x)).later ((Keeps.refl Nowhere _).alloc _) (fun _ _ x => x)⟩
    go_upto_region 18 with (first
      | (at_builtin; refine wpList_appendR rfl (.tmp 87) (.tmp 88) 39 rfl 27 (.int .u32 0) 1 4 Tryd.underlying39 u32info rfl (by decide) _ (Keeps.refl _ _) wB.heap.size _ 0 [] (lit0 wB _ 1) _ n2 (uv ks) (RY.it wB KB8.it) (uv_one ks) (by omega) (by unfold maxLen; omega) (by simp) rfl rfl ?_; intro vu wD OD KD BD; rw [Nat.zero_add, List.nil_append] at OD; obtain ⟨ua, uc, rfl⟩ := owns_sl OD.it)
      | (at_builtin; refine wpList_appendR rfl (.tmp 84) (.tmp 85) 37 rfl 29 (.agg #[.int .i64 0, .int .u32 0, .int .u32 0]) 3 16 Tryd.underlying37 infoT13 rfl (by decide) _ (Keeps.refl _ _) w8.heap.size _ 0 [] (lit0 w8 _ 3) _ n (flatT L) RB.it (flatT_one13 L) (by omega) (by unfold maxLen; omega) (by simp) rfl rfl ?_; intro vt wB OB KB BB; rw [Nat.zero_add, List.nil_append] at OB; obtain ⟨ta, tc, rfl⟩ := owns_sl OB.it; have KB8 := Aside.mk (lit_keeps rfl KB.it))
      | fail)
    obtain ⟨ownD, ZD⟩ : ∃ ownD, Aside (Oz A w s L m ks (.slice aa n ac) L (.slice ba n bc) L (.slice ta n tc) bx (.slice xa n2 xc) ks (.slice ya n2 yc) ks (.slice ua n2 uc) ownD wD) := by
      have q9 : Sn (fun _ => False) own8 w8 (give own8 w8.heap.size 22) wB := Sn.quiet KB8.it 22
      have t9 : OwR (give own8 w8.heap.size 22) 22 wB 29 3 (.slice ta n tc) L.length (flatT L) := OwR.new (by rw [← HN.it.1]; exact OB.it)
      have z9 := Z8.it
      generalize give own8 w8.heap.size 22 = own9 at q9 t9
      have qD : Sn (fun _ => False) own9 wB (give own9 wB.heap.size 25) wD := Sn.quiet (lit_keeps rfl KD.it) 25
      have uD : OwR (give own9 wB.heap.size 25) 25 wD 27 1 (.slice ua n2 uc) ks.length (uv ks) := OwR.new (by rw [← HN.it.2]; exact OD.it)
      obtain ⟨c1, c2, c3, c4, c5, c6⟩ := z9
      exact ⟨_, ⟨⟨(c1.sn q9 (fun x => x) (fun _ _ x => x)).sn qD (fun x => x) (fun _ _ x => x), (c2.sn q9 (fun x => x)).sn qD (fun x => x), (c3.sn q9 (fun x => x)).sn qD (fun x => x), t9.sn qD (fun x => x), (c6.sn q9 (fun x => x)).sn qD (fun x => x), (c4.sn q9 (fun x => x)).sn qD (fun x => x), (c5.sn q9 (fun x => x)).sn qD (fun x => x), uD⟩⟩⟩
    clear Z8 RB RY OB KB BB OD KD BD KB8
    have ST := Aside.mk (same_tks _ _ L (owns_readsK ZD.it.a.1) (owns_readsK ZD.it.b.1))
    have SN : Aside (∀ W, Keeps Nowhere wD W → Calls Tryd.prog 15 #[.slice xa n2 xc, .slice ya n2 yc] W fun e w' => e = .returned (.bool true) ∧ Aside (Keeps Nowhere W w')) := ⟨fun W k => same_nums _ _ ks ((owns_rdU ZD.it.x.1).quiet k) ((owns_rdU ZD.it.y.1).quiet k)⟩
    go_upto_block 2 with (first
      | (go_at_call 15; refine (SN.it wE kE.it).mono ?_; rintro e wF ⟨rfl, kF⟩)
      | (go_at_call 20; refine ST.it.mono ?_; rintro e wE ⟨rfl, kE⟩; have y0 : wE.cell? ⟨bx, 0, none⟩ = some (.slice xa n2 xc) := (ZD.it.quiet kE.it).bx.1.cell 0)
      | fail)
    have ZF : Aside (Oz A w s L m ks (.slice aa n ac) L (.slice ba n bc) L (.slice ta n tc) bx (.slice xa n2 xc) ks (.slice ya n2 yc) ks (.slice ua n2 uc) ownD wF) := ⟨ZD.it.quiet (kE.it.trans kF.it)⟩
    clear ST SN ZD kE kF y0
    go_cut [13] (fun iv wx => ∃ (q : Nat) (La : List Tk), iv = .int .i64 q ∧ Aside (La.length = n ∧ Oz A w s L m ks (.slice aa n ac) La (.slice ba n bc) L (.slice ta n tc) bx (.slice xa n2 xc) ks (.slice ya n2 yc) ks (.slice ua n2 uc) ownD wx))
    case first =>
      go_wp2_with fail
      go_loopw [13] (fun iv wr => ∃ (q : Nat) (La : List Tk), iv = .int .i64 q ∧ q ≤ n ∧ Aside (La.length = n ∧ Oz A w s L m ks (.slice aa n ac) La (.slice ba n bc) L (.slice ta n tc) bx (.slice xa n2 xc) ks (.slice ya n2 yc) ks (.slice ua n2 uc) ownD wr)) (fun iv _ => n - (intOf iv).toNat)
      case atStart => exact ⟨0, L, rfl, Nat.zero_le _, ⟨HN.it.1.symm, ZF.it⟩⟩
      case round =>
        obtain ⟨q, La, rfl, hq, Z⟩ := hrel
        clear ZF
        by_cases hlt : q < n
        · have hlt' : (q : Int) < n := by omega
          obtain ⟨b, c, e1, hf, ⟨u0, u1, u2, c0, c1, c2⟩, hput⟩ := Z.it.2.a.putT (i := q) (by rw [Z.it.1]; exact hlt) ⟨99, 0, 0⟩
          injection e1 with e1 e2 e3
          subst e1 e3
          have hput := Aside.mk hput
          clear e2
          go_wp2_with fail
          go_roundw
          case rel =>
            have hp := hput.it _ rfl
            exact ⟨q + 1, La.set q ⟨99, 0, 0⟩, by go_num, by omega, ⟨by rw [List.length_set]; exact Z.it.1, Z.it.2.setA hp.2 hp.1⟩⟩
          case measure => simp [intOf]; omega
        · have hlt' : ¬ (q : Int) < n := by omega
          go_wp2_with fail
          go_meet
          case rel => exact ⟨q, La, rfl, Z⟩
    case rest =>
      obtain ⟨q1, La, rfl, ZG⟩ := hcut
      clear ZF
      go_upto_block 4 with fail
      go_cut [14] (fun iv wx => ∃ (q : Nat) (X : List Nat), iv = .int .i64 q ∧ Aside (X.length = n2 ∧ Oz A w s L m ks (.slice aa n ac) La (.slice ba n bc) L (.slice ta n tc) bx (.slice xa n2 xc) X (.slice ya n2 yc) ks (.slice ua n2 uc) ownD wx))
      case first =>
        go_wp2_with fail
        go_loopw [14] (fun iv wr => ∃ (q : Nat) (X : List Nat), iv = .int .i64 q ∧ q ≤ n2 ∧ Aside (X.length = n2 ∧ Oz A w s L m ks (.slice aa n ac) La (.slice ba n bc) L (.slice ta n tc) bx (.slice xa n2 xc) X (.slice ya n2 yc) ks (.slice ua n2 uc) ownD wr)) (fun iv _ => n2 - (intOf iv).toNat)
        case atStart => exact ⟨0, ks, rfl, Nat.zero_le _, ⟨HN.it.2.symm, ZG.it.2⟩⟩
        case round =>
          obtain ⟨q, X, rfl, hq, Z⟩ := hrel
          have y0 : wr.cell? ⟨bx, 0, none⟩ = some (.slice xa n2 xc) := Z.it.2.bx.1.cell 0
          by_cases hlt : q < n2
          · have hlt' : (q : Int) < n2 := by omega
            obtain ⟨b, c, e1, hf, ⟨u0, c0⟩, hput⟩ := Z.it.2.x.putU (i := q) (by rw [Z.it.1]; exact hlt) 4000000000
            injection e1 with e1 e2 e3
            subst e1 e3
            have hput := Aside.mk hput
            clear e2
            go_wp2_with fail
            go_roundw
            case rel =>
              have hp := hput.it _ rfl
              exact ⟨q + 1, X.set q 4000000000, by go_num, by omega, ⟨by rw [List.length_set]; exact Z.it.1, Z.it.2.setX hp.2 hp.1⟩⟩
            case measure => simp [intOf]; omega
          · have hlt' : ¬ (q : Int) < n2 := by omega
            go_wp2_with fail
            go_meet
            case rel => exact ⟨q, X, rfl, Z⟩
      case rest =>
        obtain ⟨q2, X, rfl, ZH⟩ := hcut
        have hA : Aside (La.length = n) := ⟨ZG.it.1⟩
        clear ZG
        have ST := Aside.mk (same_tks _ _ L (owns_readsK ZH.it.2.b.1) (owns_readsK ZH.it.2.t.1))
        have SN : Aside (∀ W, Keeps Nowhere wc W → Calls Tryd.prog 15 #[.slice ya n2 yc, .slice ua n2 uc] W fun e w' => e = .returned (.bool true) ∧ Aside (Keeps Nowhere W w')) := ⟨fun W k => same_nums _ _ ks ((owns_rdU ZH.it.2.y.1).quiet k) ((owns_rdU ZH.it.2.u.1).quiet k)⟩
        go_upto_block 6 with (first
          | (go_at_call 15; refine (SN.it wE kE.it).mono ?_; rintro e wF ⟨rfl, kF⟩)
          | (go_at_call 20; refine ST.it.mono ?_; rintro e wE ⟨rfl, kE⟩)
          | fail)
        have ZI : Aside (X.length = n2 ∧ Oz A w s L m ks (.slice aa n ac) La (.slice ba n bc) L (.slice ta n tc) bx (.slice xa n2 xc) X (.slice ya n2 yc) ks (.slice ua n2 uc) ownD wF) := ⟨ZH.it.1, ZH.it.2.quiet (kE.it.trans kF.it)⟩
        clear ST SN ZH kE kF
        go_cut [7, 15] (fun av iv wx => ∃ (q a : Option Addr) (c xc' : Nat) (own : Nat → Nat), av = .slice a (n + 40) c ∧ Aside (Oz A w s L m ks (.slice a (n + 40) c) (La ++ List.replicate 40 t98) (.slice ba n bc) L (.slice ta n tc) bx (.slice q (n2 + 40) xc') (X ++ List.replicate 40 4000000001) (.slice ya n2 yc) ks (.slice ua n2 uc) own wx))
        case first =>
          go_wp2_with fail
          go_loopw [7, 15] (fun av iv wr => ∃ (q : Nat) (a x : Option Addr) (c xc' : Nat) (own : Nat → Nat), av = .slice a (n + q) c ∧ iv = .int .i64 q ∧ q ≤ 40 ∧ Aside (Oz A w s L m ks (.slice a (n + q) c) (La ++ List.replicate q t98) (.slice ba n bc) L (.slice ta n tc) bx (.slice x (n2 + q) xc') (X ++ List.replicate q 4000000001) (.slice ya n2 yc) ks (.slice ua n2 uc) own wr)) (fun _ iv _ => 40 - (intOf iv).toNat)
          case atStart => exact ⟨0, aa, xa, ac, xc, ownD, rfl, rfl, Nat.zero_le _, ⟨by simpa using ZI.it.2⟩⟩
          case round =>
            obtain ⟨q, a, x, c, xc', own, rfl, rfl, hq, Z⟩ := hrel
            by_cases hlt : q < 40
            · have hlt' : (q : Int) < 40 := by omega
              have la : Aside ((La ++ List.replicate q t98).length = n + q) := ⟨by rw [List.length_append, List.length_replicate, hA.it]⟩
              have lx : Aside ((X ++ List.replicate q 4000000001).length = n2 + q) := ⟨by rw [List.length_append, List.length_replicate, ZI.it.1]⟩
              have GX : Aside (∀ (w3 : World) (own3 : Nat → Nat) (a' : Option Addr) (c' : Nat), Oz A w s L m ks (.slice a' (n + (q + 1)) c') (La ++ List.replicate (q + 1) t98) (.slice ba n bc) L (.slice ta n tc) bx (.slice x (n2 + q) xc') (X ++ List.replicate q 4000000001) (.slice ya n2 yc) ks (.slice ua n2 uc) own3 w3 →
                  ∀ (x2 : Option Addr) (l2 c2 : Nat) (w4 : World), w4.ownsRow 0 27 1 (.slice x2 l2 c2) ((X ++ List.replicate q 4000000001).length + 1) (uv (X ++ List.replicate q 4000000001) ++ [.int .u32 4000000001]) → Split (.slice x (n2 + q) xc') (.slice x2 l2 c2) 1 (w3.alloc (.cells #[.int .u32 4000000001] 27)) w4 →
                  l2 = n2 + (q + 1) ∧ w4.cell? ⟨bx, 0, none⟩ = some (.slice x (n2 + q) xc') ∧ w4.frozen? ⟨bx, 0, none⟩ = false ∧ ∃ own4, Oz A w s L m ks (.slice a' (n + (q + 1)) c') (La ++ List.replicate (q + 1) t98) (.slice ba n bc) L (.slice ta n tc) bx (.slice x2 (n2 + (q + 1)) c2) (X ++ List.replicate (q + 1) 4000000001) (.slice ya n2 yc) ks (.slice ua n2 uc) own4 (w4.setCell ⟨bx, 0, none⟩ (.slice x2 (n2 + (q + 1)) c2))) := ⟨fun w3 own3 a' c' h3 x2 l2 c2 w4 o4 s4 => by
                obtain ⟨r, hs⟩ := OwR.app h3.x ((Keeps.refl _ _).alloc _) o4 s4
                have el : l2 = n2 + (q + 1) := by
                  obtain ⟨_, _, e⟩ := owns_sl o4
                  injection e with _ e
                  rw [e, lx.it]; rfl
                subst el
                have cb := h3.bx.sn hs (by omega)
                have ex : uv (X ++ List.replicate q 4000000001) ++ [.int .u32 4000000001] = uv (X ++ List.replicate (q + 1) 4000000001) := by rw [← rep_more, uv_more]; rfl
                have en : (X ++ List.replicate q 4000000001).length + 1 = (X ++ List.replicate (q + 1) 4000000001).length := by rw [← rep_more]; simp; omega
                rw [ex, en] at r
                exact ⟨rfl, cb.1.cell 0, cb.1.frozen 0, _, h3.growX hs r rfl⟩⟩
              go_wp2_with (first
                | (at_builtin; refine wpList_appendS rfl (.tmp 137) (.tmp 138) 39 rfl 27 (.int .u32 0) 1 4 Tryd.underlying39 u32info rfl (by decide) w3 ((Keeps.refl _ _).alloc _) _ _ _ Z3.it.x.1 _ 1 [.int .u32 4000000001] (by decide) (readsK_new _ _ [.int .u32 4000000001]) (by simp [Value.oneCell']) (by rw [lx.it]; omega) (by rw [lx.it]; unfold maxLen; omega) rfl rfl ?_; intro v4 w4 O4 S4; obtain ⟨x2, l2, c2, rfl⟩ := owns_shapeK O4.it; have G4 := Aside.mk (GX.it w3 _ a' c' Z3.it x2 l2 c2 w4 O4.it S4.it); obtain ⟨e4, f4, f5, -⟩ := G4.it; subst e4)
                | (at_builtin; refine wpList_appendS rfl (.tmp 133) (.tmp 135) 37 rfl 29 (.agg #[.int .i64 0, .int .u32 0, .int .u32 0]) 3 16 Tryd.underlying37 infoT13 rfl (by decide) wr ((Keeps.refl _ _).alloc _) _ _ _ Z.it.a.1 _ 1 (tcells t98) (by decide) (readsK_new _ _ (tcells t98)) (by simp [tcells, Value.oneCell']) (by rw [la.it]; omega) (by rw [la.it]; unfold maxLen; omega) rfl rfl ?_; intro v3 w3 O3 S3; obtain ⟨a', n3, c', rfl⟩ := owns_shapeK O3.it; obtain ⟨e3, Z3⟩ : n3 = n + (q + 1) ∧ Aside (Oz A w s L m ks (.slice a' (n + (q + 1)) c') (La ++ List.replicate (q + 1) t98) (.slice ba n bc) L (.slice ta n tc) bx (.slice x (n2 + q) xc') (X ++ List.replicate q 4000000001) (.slice ya n2 yc) ks (.slice ua n2 uc) (give own wr.heap.size 20) w3) := by
                    obtain ⟨r, hs⟩ := OwR.app Z.it.a ((Keeps.refl _ _).alloc _) O3.it S3.it
                    have el : n3 = n + (q + 1) := by
                      obtain ⟨_, _, e⟩ := owns_sl O3.it
                      injection e with _ e
                      rw [e, la.it]; rfl
                    have ex : flatT (La ++ List.replicate q t98) ++ tcells t98 = flatT (La ++ List.replicate (q + 1) t98) := by rw [← rep_more, flatT_more]
                    have en : (La ++ List.replicate q t98).length + 1 = (La ++ List.replicate (q + 1) t98).length := by rw [← rep_more]; simp; omega
                    rw [ex, en] at r
                    exact ⟨el, ⟨el ▸ Z.it.setA hs r⟩⟩
                   subst e3
                   have y3 : w3.cell? ⟨bx, 0, none⟩ = some (.slice x (n2 + q) xc') := Z3.it.bx.1.cell 0)
                | fail)
              go_roundw
              case rel =>
                obtain ⟨own4, h4⟩ := G4.it.2.2.2
                exact ⟨q + 1, a', x2, c', c2, own4, rfl, by go_num, by omega, ⟨h4⟩⟩
              case measure => simp [intOf]; omega
            · obtain rfl : q = 40 := by omega
              go_wp2_with fail
              go_meet
              case rel => exact ⟨x, a, c, xc', own, rfl, Z⟩
        case rest =>
          obtain ⟨xq, a, c, xc', own, rfl, ZJ⟩ := hcut
          have hX : Aside (X.length = n2) := ⟨ZI.it.1⟩
          clear ZI
          go_upto_block 8 with fail
          go_cut [8, 10, 16] (fun bv yv iv wx => ∃ (b y : Option Addr) (bc' yc' : Nat) (own : Nat → Nat), bv = .slice b (n + 40) bc' ∧ yv = .slice y (n2 + 40) yc' ∧ Aside (Oz A w s L m ks (.slice a (n + 40) c) (La ++ List.replicate 40 t98) (.slice b (n + 40) bc') (L ++ List.replicate 40 t97) (.slice ta n tc) bx (.slice xq (n2 + 40) xc') (X ++ List.replicate 40 4000000001) (.slice y (n2 + 40) yc') (ks ++ List.replicate 40 4000000002) (.slice ua n2 uc) own wx))
          case first =>
            go_wp2_with fail
            go_loopw [8, 10, 16] (fun bv yv iv wr => ∃ (q : Nat) (b y : Option Addr) (bc' yc' : Nat) (own : Nat → Nat), bv = .slice b (n + q) bc' ∧ yv = .slice y (n2 + q) yc' ∧ iv = .int .i64 q ∧ q ≤ 40 ∧ Aside (Oz A w s L m ks (.slice a (n + 40) c) (La ++ List.replicate 40 t98) (.slice b (n + q) bc') (L ++ List.replicate q t97) (.slice ta n tc) bx (.slice xq (n2 + 40) xc') (X ++ List.replicate 40 4000000001) (.slice y (n2 + q) yc') (ks ++ List.replicate q 4000000002) (.slice ua n2 uc) own wr)) (fun _ _ iv _ => 40 - (intOf iv).toNat)
            case atStart => exact ⟨0, ba, ya, bc, yc, own, rfl, rfl, rfl, Nat.zero_le _, ⟨by simpa using ZJ.it⟩⟩
            case round =>
              obtain ⟨q, b, y, bc', yc', own', rfl, rfl, rfl, hq, Z⟩ := hrel
              by_cases hlt : q < 40
              · have hlt' : (q : Int) < 40 := by omega
                have la : Aside ((L ++ List.replicate q t97).length = n + q) := ⟨by rw [List.length_append, List.length_replicate, HN.it.1]⟩
                have lx : Aside ((ks ++ List.replicate q 4000000002).length = n2 + q) := ⟨by rw [List.length_append, List.length_replicate, HN.it.2]⟩
                go_wp2_with (first
                  | (at_builtin; refine wpList_appendS rfl (.tmp 148) (.tmp 149) 39 rfl 27 (.int .u32 0) 1 4 Tryd.underlying39 u32info rfl (by decide) w3 ((Keeps.refl _ _).alloc _) _ _ _ Z3.it.y.1 _ 1 [.int .u32 4000000002] (by decide) (readsK_new _ _ [.int .u32 4000000002]) (by simp [Value.oneCell']) (by rw [lx.it]; omega) (by rw [lx.it]; unfold maxLen; omega) rfl rfl ?_; intro v4 w4 O4 S4; obtain ⟨y', n4, c4, rfl⟩ := owns_shapeK O4.it; obtain ⟨e4, Z4⟩ : n4 = n2 + (q + 1) ∧ Aside (Oz A w s L m ks (.slice a (n + 40) c) (La ++ List.replicate 40 t98) (.slice b' (n + (q + 1)) c') (L ++ List.replicate (q + 1) t97) (.slice ta n tc) bx (.slice xq (n2 + 40) xc') (X ++ List.replicate 40 4000000001) (.slice y' (n2 + (q + 1)) c4) (ks ++ List.replicate (q + 1) 4000000002) (.slice ua n2 uc) (give (give own' wr.heap.size 21) w3.heap.size 24) w4) := by
                      obtain ⟨r, hs⟩ := OwR.app Z3.it.y ((Keeps.refl _ _).alloc _) O4.it S4.it
                      have el : n4 = n2 + (q + 1) := by
                        obtain ⟨_, _, e⟩ := owns_sl O4.it
                        injection e with _ e
                        rw [e, lx.it]; rfl
                      have ex : uv (ks ++ List.replicate q 4000000002) ++ [.int .u32 4000000002] = uv (ks ++ List.replicate (q + 1) 4000000002) := by rw [← rep_more, uv_more]; rfl
                      have en : (ks ++ List.replicate q 4000000002).length + 1 = (ks ++ List.replicate (q + 1) 4000000002).length := by rw [← rep_more]; simp; omega
                      rw [ex, en] at r
                      exact ⟨el, ⟨el ▸ Z3.it.setY hs r⟩⟩
                     subst e4)
                  | (at_builtin; refine wpList_appendS rfl (.tmp 144) (.tmp 146) 37 rfl 29 (.agg #[.int .i64 0, .int .u32 0, .int .u32 0]) 3 16 Tryd.underlying37 infoT13 rfl (by decide) wr ((Keeps.refl _ _).alloc _) _ _ _ Z.it.b.1 _ 1 (tcells t97) (by decide) (readsK_new _ _ (tcells t97)) (by simp [tcells, Value.oneCell']) (by rw [la.it]; omega) (by rw [la.it]; unfold maxLen; omega) rfl rfl ?_; intro v3 w3 O3 S3; obtain ⟨b', n3, c', rfl⟩ := owns_shapeK O3.it; obtain ⟨e3, Z3⟩ : n3 = n + (q + 1) ∧ Aside (Oz A w s L m ks (.slice a (n + 40) c) (La ++ List.replicate 40 t98) (.slice b' (n + (q + 1)) c') (L ++ List.replicate (q + 1) t97) (.slice ta n tc) bx (.slice xq (n2 + 40) xc') (X ++ List.replicate 40 4000000001) (.slice y (n2 + q) yc') (ks ++ List.replicate q 4000000002) (.slice ua n2 uc) (give own' wr.heap.size 21) w3) := by
                      obtain ⟨r, hs⟩ := OwR.app Z.it.b ((Keeps.refl _ _).alloc _) O3.it S3.it
                      have el : n3 = n + (q + 1) := by
                        obtain ⟨_, _, e⟩ := owns_sl O3.it
                        injection e with _ e
                        rw [e, la.it]; rfl
                      have ex : flatT (L ++ List.replicate q t97) ++ tcells t97 = flatT (L ++ List.replicate (q + 1) t97) := by rw [← rep_more, flatT_more]
                      have en : (L ++ List.replicate q t97).length + 1 = (L ++ List.replicate (q + 1) t97).length := by rw [← rep_more]; simp; omega
                      rw [ex, en] at r
                      exact ⟨el, ⟨el ▸ Z.it.setB hs r⟩⟩
                     subst e3)
                  | fail)
                go_roundw
                case rel => exact ⟨q + 1, b', y', c', c4, _, rfl, rfl, by go_num, by omega, Z4⟩
                case measure => simp [intOf]; omega
              · obtain rfl : q = 40 := by omega
                go_wp2_with fail
                go_meet
                case rel => exact ⟨b, y, bc', yc', own', rfl, rfl, Z⟩
          case rest =>
            obtain ⟨b, y, bc', yc', own', rfl, rfl, ZK⟩ := hcut
            clear ZJ
            go_upto_block 10 with fail
            go_cut [17] (fun iv wx => Aside (Oz A w s L m ks (.slice a (n + 40) c) (La ++ List.replicate 40 t98) (.slice b (n + 40) bc') (L ++ List.replicate 40 t97) (.slice ta n tc) bx (.slice xq (n2 + 40) xc') (X ++ List.replicate 40 4000000001) (.slice y (n2 + 40) yc') (ks ++ List.replicate 40 4000000002) (.slice ua n2 uc) own' wx))
            case first =>
              go_wp2_with fail
              go_loopw [17] (fun iv wr => ∃ q : Nat, iv = .int .i64 q ∧ q ≤ 40 ∧ Aside (Oz A w s L m ks (.slice a (n + 40) c) (La ++ List.replicate 40 t98) (.slice b (n + 40) bc') (L ++ List.replicate 40 t97) (.slice ta n tc) bx (.slice xq (n2 + 40) xc') (X ++ List.replicate 40 4000000001) (.slice y (n2 + 40) yc') (ks ++ List.replicate 40 4000000002) (.slice ua n2 uc) own' wr)) (fun iv _ => 40 - (intOf iv).toNat)
              case atStart => exact ⟨0, rfl, Nat.zero_le _, ZK⟩
              case round =>
                obtain ⟨q, rfl, hq, Z⟩ := hrel
                clear ZK
                by_cases hlt : q < 40
                · have hlt' : (q : Int) < 40 := by omega
                  obtain ⟨a1, c1, e1, _, _, hat1⟩ := RdT.at (owns_readsK Z.it.a.1)
                  obtain ⟨g1, o1, e2, d0, _, _⟩ := hat1 (n + q) t98 (rep_at La t98 n q 40 hA.it hlt)
                  obtain ⟨a2, c2, e3, _, _, hat2⟩ := owns_rdU Z.it.x.1
                  obtain ⟨g2, o2, e4, d1⟩ := hat2 (n2 + q) 4000000001 (rep_at X 4000000001 n2 q 40 hX.it hlt)
                  injection e1 with e1 e5 e6
                  injection e3 with e3 e7 e8
                  subst e1 e3 e6 e8
                  subst e2 e4
                  have y0 : wr.cell? ⟨bx, 0, none⟩ = some (.slice (some ⟨g2, o2, none⟩) (n2 + 40) xc') := Z.it.bx.1.cell 0
                  have d0 : wr.cell? ⟨g1, o1 + (n + q) * 3, none⟩ = some (.int .i64 98) := d0
                  clear e5 e7 hat1 hat2
                  go_wp2_with fail
                  go_roundw
                  case rel => exact ⟨q + 1, by go_num, by omega, Z⟩
                  case measure => simp [intOf]; omega
                · have hlt' : ¬ (q : Int) < 40 := by omega
                  go_wp2_with fail
                  go_meet
                  case rel => exact Z
            case rest =>
              have ZL := hcut
              clear ZK hcut
              have NX := Aside.mk (fun cb ob W => next_nil13 cb ob W)
              go_upto_region 46 with (first
                | (go_at_call 12; refine (NX.it cb ob wM).mono ?_; rintro e wN ⟨rfl, kN⟩)
                | (go_at_call 13; refine (data_any bx wc).mono ?_; rintro e wM ⟨cb, ob, rfl, kM⟩)
                | fail)
              obtain ⟨b18, hb18⟩ : ∃ b, b = wN.heap.size := ⟨_, rfl⟩
              obtain ⟨wO, hwO⟩ : ∃ wO, wO = wN.alloc (.cells #[.int .u8 0, .int .u8 0, .int .u16 0, .int .u32 0, .int .u32 0, .slice none 0 0] 46) := ⟨_, rfl⟩
              have kO : Keeps Nowhere wN wO := by rw [hwO]; exact (Keeps.refl _ _).alloc _
              have cO : Cells wO b18 46 zero6 := by rw [hwO, hb18]; exact Cells.new wN _ _
              have ZO := Aside.mk (ZL.it.quiet ((kM.it.trans kN.it).trans kO))
              have CO := Aside.mk cO
              rw [← hb18, ← hwO]
              clear hb18 hwO kO cO kM kN NX ZL
              have CL := Aside.mk (clear_nil13 wO)
              go_upto_region 47 with (first
                | (go_at_call 21; refine CL.it.mono ?_; rintro e wP ⟨rfl, kP⟩)
                | fail)
              have ZP := Aside.mk (ZO.it.quiet kP.it)
              obtain ⟨⟨s0, s1, s2, s3, s4, s5⟩, f5⟩ := six_cells (CO.it.later kP.it (fun x => x))
              have NQ := fun w => hd_neq13 w 0 0 0 0 0 0 0 0 0 0
              simp only [and_self, decide_true, Bool.not_true] at NQ
              have TN := Aside.mk (tickets_nil13 wP)
              have UN := Aside.mk (fun W => turns_nil13 W)
              have CN : Aside (∀ W, Calls Tryd.prog 22 #[.pointer none, .int .i64 1] W fun e w' => e = .returned (.int .i64 0) ∧ Aside (Keeps Nowhere W w')) := ⟨fun W => count_nil13 1 W⟩
              clear ZO CO CL kP
              go_upto_region 49 with (first
                | (go_at_call 22; refine (CN.it wR).mono ?_; rintro e wS ⟨rfl, kS⟩)
                | (go_at_call 11; refine (UN.it wQ).mono ?_; rintro e wR ⟨rfl, kR⟩)
                | (go_at_call 10; refine TN.it.mono ?_; rintro e wQ ⟨qa, qc, rfl, kQ⟩)
                | fail)
              have ZS := Aside.mk (ZP.it.quiet ((kQ.it.trans kR.it).trans kS.it))
              clear ZP TN UN CN s0 s1 s2 s3 s4 s5 f5 NQ kQ kR kS
              have TI := tickets_sl ZS.it.sc (by have := K3.it.1; omega)
              rw [← HN.it.1] at TI
              have TI := Aside.mk TI
              have ST : Aside (∀ W B a c, Keeps Nowhere wS W → W.ownsRow B 29 3 (.slice a n c) n (flatT L) → Calls Tryd.prog 20 #[.slice a n c, .slice ta n tc] W fun e w' => e = .returned (.bool true) ∧ Aside (Keeps Nowhere W w')) := ⟨fun W B a c k o => same_tks _ _ L (by rw [HN.it.1] at o; rw [HN.it.1]; exact owns_readsK o) (owns_readsK (ZS.it.quiet k).t.1)⟩
              have TU : Aside (∀ W, Keeps Nowhere wS W → Calls Tryd.prog 11 #[ptr s] W fun e w' => ∃ a c, e = .returned (.slice a n2 c) ∧ Aside (w'.ownsRow W.heap.size 27 1 (.slice a n2 c) n2 (uv ks)) ∧ Aside (Keeps Nowhere W w')) := ⟨fun W k => by rw [HN.it.2]; exact turns_sl (ZS.it.sc.quiet k) (by have := HN.it.2; omega)⟩
              have SN : Aside (∀ W B a c, Keeps Nowhere wS W → W.ownsRow B 27 1 (.slice a n2 c) n2 (uv ks) → Calls Tryd.prog 15 #[.slice a n2 c, .slice ua n2 uc] W fun e w' => e = .returned (.bool true) ∧ Aside (Below w.heap.size w w')) := ⟨fun W B a c k o => by
                have F6 := ZS.it.quiet k
                refine (same_nums (.slice a n2 c) (.slice ua n2 uc) ks (owns_rdU o) (owns_rdU F6.u.1)).mono ?_
                rintro e w' ⟨rfl, k'⟩
                exact ⟨rfl, ⟨(F6.quiet k'.it).sc.bel⟩⟩⟩
              go_wp2_with (first
                | (go_at_call 15; refine (SN.it wV _ va vc (KU.it.trans kV.it) oV.it).mono ?_; rintro e wX ⟨rfl, bX⟩)
                | (go_at_call 11; refine (TU.it wU KU.it).mono ?_; rintro e wV ⟨va, vc, rfl, oV, kV⟩)
                | (go_at_call 20; refine (ST.it wT _ ia ic kT.it oT.it).mono ?_; rintro e wU ⟨rfl, kU⟩; have KU := Aside.mk (kT.it.trans kU.it))
                | (go_at_call 10; refine TI.it.mono ?_; rintro e wT ⟨ia, ic, rfl, oT, kT⟩)
                | fail)
              go_ret
              exact ⟨rfl, bX.it⟩
end Go.Proofs.YtnohcbdnhpaafaaDoor

