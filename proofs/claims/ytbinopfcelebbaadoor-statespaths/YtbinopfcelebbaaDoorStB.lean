/-
  package states: Play; of law 09: events, count.
-/
import Derived.Test.YtbinopfcelebbaaDoorStR2
namespace Go.Proofs.YtbinopfcelebbaaDoor
open Go.RowKit

section
variable {w w' : World} {A : Nat → Addr}
theorem play_any (v : Value) (zs : List Int) (hz : RdI w v zs) (h : St9 A w) : Calls Tryd.prog 12 #[v] w fun x w' => ∃ u, x = .returned (.tuple #[.int .i64 (plS 0 zs), .int .i64 (plN 0 zs), u]) ∧ Hid (Coded A u (plE 0 zs)) ∧ ∃ m, w' = w.drewN m := by
  obtain ⟨sa, sc, rfl, hlc, hmx, hat⟩ := hz
  obtain ⟨M, hM⟩ : ∃ M, Aside (M = zs.length) := ⟨_, ⟨rfl⟩⟩
  rw [← hM.it] at hlc ⊢
  have hM63 : (M : Int) ≤ 9223372036854775807 := by
    have : sc ≤ 9223372036854775807 := hmx
    omega
  have HAT := Aside.mk hat
  have HN := Aside.mk (fun s e m => next_any s e (h.drewN m))
  clear hat hmx h
  go_enter Tryd.func12, Tryd.ntmps12
  go_upto_region 3 with fail
  go_loopw [5, 12] (fun sv x wr => ∃ (k : Nat) (r : Int) (m : Nat), sv = .int .i64 r ∧ x = .int .i64 k ∧ wr = w.drewN m ∧ Aside (Pl zs k r)) (fun _ x _ => M - (intOf x).toNat)
  case atStart => exact ⟨0, 0, 0, rfl, rfl, rfl, ⟨Pl.start zs⟩⟩
  case round =>
    obtain ⟨k, r, m, rfl, rfl, rfl, HP⟩ := hrel
    have hk : k ≤ M := by rw [hM.it]; exact HP.it.le
    rcases Nat.eq_or_lt_of_le hk with rfl | hlt
    · clear HAT HN
      go_wp2
      go_ret3
      have hP := HP.it
      rw [hM.it] at hP ⊢
      obtain ⟨e1, e2, e3⟩ := hP.all
      rw [e1, e2, e3]
      exact ⟨_, rfl, hide .none, _, rfl⟩
    · have hx : zs[k]? = some (zs[k]'(by rw [← hM.it]; exact hlt)) := List.getElem?_eq_getElem _
      generalize zs[k]'(by rw [← hM.it]; exact hlt) = x at hx
      have HX := Aside.mk hx
      obtain ⟨hb, sb, so, rfl, hc⟩ := HAT.it k x hx
      clear hx HAT
      have i2 : (k : Int) < M := by omega
      have i3 : (0 : Int) ≤ k := by omega
      have i4 : (k : Int) ≤ 9223372036854775806 := by omega
      by_cases h0 : nxE r x = 0
      · have HQ := Aside.mk (HP.it.next HX.it h0)
        have c1 := Aside.mk (HN.it r x m)
        rw [h0] at c1
        clear HN h0
        generalize nxS r x = t at c1 HQ
        go_wp2_with (first | (go_at_call 16; refine c1.it.mono ?_; rintro y w1 ⟨u, rfl, hu, m1, rfl⟩; have e := hu.out.zero; subst e) | fail)
        go_roundw
        case rel => exact ⟨k + 1, t, m + m1, rfl, by go_num, by first | rfl | trivial, HQ⟩
        case measure => simp [intOf]; omega
      · have HQ := Aside.mk (HP.it.fails HX.it h0)
        have c1 := Aside.mk (HN.it r x m)
        have H0 := Aside.mk h0
        clear HN h0
        generalize nxE r x = f at c1 HQ H0
        go_wp2_with (first | (go_at_call 16; refine c1.it.mono ?_; rintro y w1 ⟨u, rfl, hu, m1, rfl⟩; obtain ⟨a, e⟩ := hu.out.pos H0.it; subst e) | fail)
        go_ret3
        obtain ⟨e1, e2, e3⟩ := HQ.it
        rw [e1, e2, e3]
        exact ⟨_, rfl, hu, m + m1, rfl⟩
theorem evInfo : (Tryd.prog.info? 39).map (fun i => (i.zero, i.size, i.bytes)) = some (some (.int .i64 0), 1, 8) := by kernel_rfl
/-- the numbers as events: a row of the call's own -/
theorem events_any (v : Value) (zs : List Int) (hz : RdI w v zs) (h8 : zs.length * 8 ≤ 140737488351232) : Calls Tryd.prog 13 #[v] w fun x w' => ∃ q l c, x = .returned (.slice q l c) ∧ Aside (w'.ownsRow w.heap.size 39 1 (.slice q l c) zs.length (iv zs)) ∧ Aside (Below w.heap.size w w') := by
  obtain ⟨sa, sc, rfl, hlc, hmx, hat⟩ := hz
  obtain ⟨M, hM⟩ : ∃ M, Aside (M = zs.length) := ⟨_, ⟨rfl⟩⟩
  rw [← hM.it] at hlc h8 ⊢
  have H8 := Aside.mk h8
  have hM63 : (M : Int) ≤ 9223372036854775807 := by
    have : sc ≤ 9223372036854775807 := hmx
    omega
  have HAT := Aside.mk hat
  clear hat hmx h8
  go_enter Tryd.func13, Tryd.ntmps13
  go_upto_region 3 with fail
  go_loopw [3, 4] (fun ov x wr => ∃ (k : Nat) (q : Option Addr) (l c : Nat), ov = .slice q l c ∧ x = .int .i64 k ∧ k ≤ M ∧ Aside (wr.ownsRow w.heap.size 39 1 (.slice q l c) k (iv (zs.take k))) ∧ Aside (Below w.heap.size w wr)) (fun _ x _ => M - (intOf x).toNat)
  case atStart => exact ⟨0, none, 0, 0, rfl, rfl, Nat.zero_le _, ⟨World.ownsRow_nil _ _ _ _⟩, ⟨Below.refl _ _⟩⟩
  case round =>
    obtain ⟨k, q, l, c, rfl, rfl, hk, HO, HB⟩ := hrel
    rcases Nat.eq_or_lt_of_le hk with rfl | hlt
    · clear HAT
      go_wp2
      go_ret
      refine ⟨q, l, c, rfl, ?_, HB⟩
      have := HO.it
      rw [List.take_of_length_le (by rw [← hM.it]; exact Nat.le_refl _)] at this
      exact ⟨this⟩
    · have hx : zs[k]? = some (zs[k]'(by rw [← hM.it]; exact hlt)) := List.getElem?_eq_getElem _
      generalize zs[k]'(by rw [← hM.it]; exact hlt) = x at hx
      have HX := Aside.mk (take_one hx)
      obtain ⟨hb, sb, so, rfl, hc0⟩ := HAT.it k x hx
      have hc : wr.cell? ⟨sb, so + k, none⟩ = some (.int .i64 x) := by rw [HB.it.cell (World.block_lt_of_cell? w _ hc0)]; exact hc0
      clear hx HAT hc0
      have i2 : (k : Int) < M := by omega
      have i3 : (0 : Int) ≤ k := by omega
      have i4 : (k : Int) ≤ 9223372036854775806 := by omega
      have K1 := Aside.mk ((Keeps.refl Nowhere wr).alloc (.cells #[.int .i64 x] 39))
      have R1 := Aside.mk (readsK_new wr 39 [.int .i64 x])
      have hB := Aside.mk HB.it.size
      have h8 := Aside.mk (show (k + 1) * 8 ≤ 140737488355328 by have := H8.it; omega)
      have h9 := Aside.mk (show k + 1 ≤ maxLen by have := H8.it; unfold maxLen; omega)
      clear H8
      go_wp2_with (first
        | (refine wpList_appendR rfl _ _ 31 rfl 39 _ 1 8 Tryd.underlying31 evInfo rfl (by decide) wr K1.it w.heap.size _ k _ HO.it _ 1 [.int .i64 x] R1.it (by simp [Value.oneCell']) h8.it h9.it hB.it rfl rfl ?_; rintro u w3 O3 K3 B3; obtain ⟨q3, l3, c3, e⟩ := owns_shapeK O3.it; subst e)
        | fail)
      go_roundw
      case rel =>
        refine ⟨k + 1, q3, l3, c3, rfl, by go_num, hlt, ?_, ?_⟩
        · have := O3.it
          rw [show iv (zs.take k) ++ [.int .i64 x] = iv (zs.take (k + 1)) from by rw [HX.it]; simp [iv]] at this
          exact ⟨this⟩
        · refine ⟨below_next (below_next HB.it K1.it hB.it (fun _ x _ => x.elim)) K3.it (Nat.le_trans hB.it K1.it.size) (fun b hb _ => ?_)⟩
          exact owns_base HO.it b hb
      case measure => simp [intOf]; omega
/-- how often the event stands there -/
theorem count_any (v : Value) (zs : List Int) (hz : RdI w v zs) (y : Int) : Calls Tryd.prog 17 #[v, .int .i64 y] w fun x w' => x = .returned (.int .i64 (cnt zs y)) ∧ w' = w := by
  obtain ⟨sa, sc, rfl, hlc, hmx, hat⟩ := hz
  obtain ⟨M, hM⟩ : ∃ M, Aside (M = zs.length) := ⟨_, ⟨rfl⟩⟩
  rw [← hM.it] at hlc ⊢
  have hM63 : (M : Int) ≤ 9223372036854775807 := by
    have : sc ≤ 9223372036854775807 := hmx
    omega
  have HAT := Aside.mk hat
  clear hat hmx
  go_enter Tryd.func17, Tryd.ntmps17
  go_upto_region 3 with fail
  go_loopw [5, 6] (fun nv x wr => ∃ (k n : Nat), nv = .int .i64 n ∧ x = .int .i64 k ∧ k ≤ M ∧ n ≤ k ∧ wr = w ∧ Aside (n = cnt (zs.take k) y)) (fun _ x _ => M - (intOf x).toNat)
  case atStart => exact ⟨0, 0, rfl, rfl, Nat.zero_le _, Nat.le_refl _, rfl, ⟨rfl⟩⟩
  case round =>
    obtain ⟨k, n, rfl, rfl, hk, hn, rfl, HN⟩ := hrel
    rcases Nat.eq_or_lt_of_le hk with rfl | hlt
    · clear HAT
      go_wp2
      go_ret
      have e := HN.it
      rw [List.take_of_length_le (by rw [← hM.it]; exact Nat.le_refl _)] at e
      rw [e]
      exact ⟨rfl, rfl⟩
    · have hx : zs[k]? = some (zs[k]'(by rw [← hM.it]; exact hlt)) := List.getElem?_eq_getElem _
      generalize zs[k]'(by rw [← hM.it]; exact hlt) = x at hx
      have HX := Aside.mk (take_one hx)
      obtain ⟨hb, sb, so, rfl, hc⟩ := HAT.it k x hx
      clear hx HAT
      have i2 : (k : Int) < M := by omega
      have i3 : (0 : Int) ≤ k := by omega
      have i4 : (k : Int) ≤ 9223372036854775806 := by omega
      have i5 : (n : Int) ≤ 9223372036854775806 := by omega
      have i6 : (0 : Int) ≤ n := by omega
      obtain ⟨d, e1, e2, e3⟩ := cnt_snoc (zs.take k) y x
      rw [← HX.it, ← HN.it] at e1
      have E1 := Aside.mk e1
      clear e1
      by_cases hxy : x = y
      · have e2' := e2 hxy
        subst hxy
        subst e2'
        clear e2 e3
        go_wp2
        go_roundw
        case rel => exact ⟨k + 1, n + 1, by go_num, by go_num, hlt, by omega, by first | rfl | trivial, ⟨E1.it.symm⟩⟩
        case measure => simp [intOf]; omega
      · have e3' := e3 hxy
        subst e3'
        have h1 : (x == y) = false := by simpa using hxy
        clear e2 e3 hxy
        go_wp2
        go_roundw
        case rel => exact ⟨k + 1, n, by go_num, by go_num, hlt, by omega, by first | rfl | trivial, ⟨E1.it.symm⟩⟩
        case measure => simp [intOf]; omega
end
end Go.Proofs.YtbinopfcelebbaaDoor
