/-
  package fifo at laid: New, Put, Head
-/
import Derived.Test.YtfphoaphdfhhiaaDoorFifoAlaid
import Derived.BigRegion
namespace Go.Proofs.YtfphoaphdfhhiaaDoor.Flaid
open Go.RowKit

variable {w w' : World} {p rt rw : Nat} {q : List (El × Nat)} {v : Value} {first : Nat} {gone : List Value}

theorem new_bad (w : World) (t r : Int) (er : Value) (hc : w.cell? ⟨1, 0, none⟩ = some er) (hn : t < 0 ∨ r < 0) :
    Calls Tryd.prog 15 #[.int .i64 t, .int .i64 r] w fun e w' => e = .returned (.tuple #[.pointer none, er]) ∧ Keeps Nowhere w w' := by
  rcases Int.lt_or_le t 0 with h | h
  · clear hn
    go_enter Tryd.func15, Tryd.ntmps15
    go_wp2_with fail
    go_region_held_law (fun w' => w'.cell? ⟨1, 0, none⟩ = some er) (exact hc) (fail)
    go_wp2
    go_ret2
    exact ⟨rfl, (Keeps.refl _ _).drew⟩
  · have h' : r < 0 := by omega
    clear hn
    go_enter Tryd.func15, Tryd.ntmps15
    go_wp2_with fail
    go_region_held_law (fun w' => w'.cell? ⟨1, 0, none⟩ = some er) (exact hc) (fail)
    go_wp2
    go_ret2
    exact ⟨rfl, (Keeps.refl _ _).drew⟩
theorem new_good (w : World) (rt rw : Nat) (h1 : rt ≤ 9223372036854775807) (h2 : rw ≤ 9223372036854775807) :
    Calls Tryd.prog 15 #[.int .i64 rt, .int .i64 rw] w fun e w' => e = .returned (.tuple #[.pointer (some ⟨w.heap.size, 0, none⟩), .nilIface]) ∧ FifoIn w' w.heap.size rt rw [] (.slice none 0 0) 0 [] ∧ Keeps Nowhere w w' := by
  go_enter Tryd.func15, Tryd.ntmps15
  go_wp2
  go_ret2
  refine ⟨rfl, ⟨?_, World.ownsRow_nil _ _ _ _, rfl, Nat.zero_le _, Nat.zero_le _, h1, h2⟩, (Keeps.refl _ _).alloc _⟩
  exact Cells.new w _ (fifoCells rt rw (.slice none 0 0) 0 0)

theorem put_nil (w : World) (x : El) (n : Int) (er : Value) (hc : w.cell? ⟨0, 0, none⟩ = some er) :
    Calls Tryd.prog 24 #[.pointer none, .pointer (some ⟨x, 0, none⟩), .int .i64 n] w fun e w' => e = .returned er ∧ Keeps Nowhere w w' := by
  go_enter Tryd.func24, Tryd.ntmps24
  go_wp2
  go_ret
  exact ⟨rfl, Keeps.refl _ _⟩
theorem put_range (w : World) (p : Nat) (x : El) (n : Int) (er : Value) (hc : w.cell? ⟨1, 0, none⟩ = some er) (hn : n < 0) :
    Calls Tryd.prog 24 #[.pointer (some ⟨p, 0, none⟩), .pointer (some ⟨x, 0, none⟩), .int .i64 n] w fun e w' => e = .returned er ∧ Keeps Nowhere w w' := by
  go_enter Tryd.func24, Tryd.ntmps24
  go_wp2
  go_ret
  exact ⟨rfl, Keeps.refl _ _⟩
theorem put_full (h : FifoIn w p rt rw q v first gone) (x : El) (n : Nat) (er : Value) (hc : w.cell? ⟨5, 0, none⟩ = some er) (hn : rt ≤ q.length ∨ rw < sumW q + n) :
    Calls Tryd.prog 24 #[.pointer (some ⟨p, 0, none⟩), .pointer (some ⟨x, 0, none⟩), .int .i64 n] w fun e w' => e = .returned er ∧ Keeps Nowhere w w' := by
  have L := hide (len_quiet h)
  have c0 : w.cell? ⟨p, 0, none⟩ = some (.int .i64 rt) := by rw [h.cells.cell]; rfl
  have c1 : w.cell? ⟨p, 1, none⟩ = some (.int .i64 rw) := by rw [h.cells.cell]; rfl
  have c4 : w.cell? ⟨p, 4, none⟩ = some (.int .i64 (sumW q)) := by rw [h.cells.cell]; rfl
  have h1 := h.weight
  have h2 := h.rw63
  clear h
  obtain ⟨m, hm⟩ : ∃ m, m = q.length := ⟨_, rfl⟩
  obtain ⟨s, hs⟩ : ∃ s, s = sumW q := ⟨_, rfl⟩
  rw [← hm] at L hn
  rw [← hs] at c4 hn h1
  clear hm hs
  rcases Nat.lt_or_ge m rt with hl | hl
  · have hn' : (rw : Int) - s < n := by omega
    have hd : decide (rt ≤ m) = false := decide_eq_false (by omega)
    clear hn
    go_enter Tryd.func24, Tryd.ntmps24
    go_wp2_with fail
    go_quiet ((go_at_call 27; exact L.out _))
    go_wp2
    all_goals first
      | (go_ret; exact ⟨rfl, keeps_drew ⟨_, rfl⟩⟩)
      | (exfalso; omega)
  · have hd : rt ≤ m := hl
    have hd' : (rt : Int) ≤ m := by omega
    clear hn hl
    go_enter Tryd.func24, Tryd.ntmps24
    go_wp2_with fail
    go_quiet ((go_at_call 27; exact L.out _))
    go_wp2
    all_goals first
      | (go_ret; exact ⟨rfl, keeps_drew ⟨_, rfl⟩⟩)
      | (exfalso; omega)
theorem put_ok (h : FifoIn w p rt rw q v first gone) (x : El) (n : Nat) (hl : q.length < rt) (hn : sumW q + n ≤ rw) (hb : (first + q.length + 1) * by' ≤ 140737488355328) :
    Calls Tryd.prog 24 #[.pointer (some ⟨p, 0, none⟩), .pointer (some ⟨x, 0, none⟩), .int .i64 n] w fun e w' => e = .returned .nilIface ∧
      ∃ v', Aside (FifoIn w' p rt rw (q ++ [(x, n)]) v' first gone) ∧ Aside (∀ k, v'.ownBlock = some k → v.ownBlock = some k ∨ w.heap.size ≤ k) ∧ Aside (Keeps (Own p v) w w') := by
  obtain ⟨i0, hi, hz0, hz1, hz2⟩ := info_parts info
  have HI : Aside _ := ⟨hi⟩
  have HZ0 : Aside _ := ⟨hz0⟩
  have HZ1 : Aside _ := ⟨hz1⟩
  have HZ2 : Aside _ := ⟨hz2⟩
  have L := hide (len_quiet h)
  have c0 : w.cell? ⟨p, 0, none⟩ = some (.int .i64 rt) := by rw [h.cells.cell]; rfl
  have c1 : w.cell? ⟨p, 1, none⟩ = some (.int .i64 rw) := by rw [h.cells.cell]; rfl
  have c4 : w.cell? ⟨p, 4, none⟩ = some (.int .i64 (sumW q)) := by rw [h.cells.cell]; rfl
  have h1 := h.weight
  have h2 := h.rw63
  have HH : Aside _ := ⟨h⟩
  have HB : Aside _ := ⟨hb⟩
  clear h hi hz0 hz1 hz2 hb
  obtain ⟨m, hm⟩ : ∃ m, m = q.length := ⟨_, rfl⟩
  obtain ⟨s, hs⟩ : ∃ s, s = sumW q := ⟨_, rfl⟩
  rw [← hm] at L hl
  rw [← hs] at c4 hn h1
  have HM : Aside _ := ⟨hm⟩
  have HS : Aside _ := ⟨hs⟩
  clear hm hs
  have hd : decide (rt ≤ m) = false := decide_eq_false (by omega)
  have hn' : (n : Int) ≤ (rw : Int) - s := by omega
  have hn2 : (s : Int) + n ≤ 9223372036854775807 := by omega
  have c2 : w.cell? ⟨p, 2, none⟩ = some v := by rw [HH.it.cells.cell]; rfl
  obtain ⟨va, vl, vc, hv⟩ : ∃ a l c, v = .slice a l c := by
    rcases HH.it.shape with ⟨e, _⟩ | ⟨g, cap, e, _⟩
    · exact ⟨_, _, _, e⟩
    · exact ⟨_, _, _, e⟩
  subst hv
  have HN : Aside _ := ⟨hn⟩
  have HL : Aside _ := ⟨hl⟩
  clear hn hl h1
  go_enter Tryd.func24, Tryd.ntmps24
  go_wp2_with fail
  go_quiet ((go_at_call 27; exact L.out _))
  go_wp2_with (at_builtin; refine wpList_appendR rfl (.tmp 41) (.tmp 45) 71 rfl 83 zeroW (sz + 1) by' Tryd.underlying71 info rfl (by decide) w (((Keeps.refl _ _).drewN _).alloc _) 0 _ _ _ HH.it.row _ 1 (fl (x, n)) (readsK_new _ _ (fl (x, n))) (flat_one (x, n) ▸ flat_one' [(x, n)]) HB.it (by unfold maxLen; have := HB.it; simp only [by'] at this; omega) (Nat.zero_le _) rfl rfl ?_; intro v' w' o' k' b'; obtain ⟨g0, g1, g2, hv'⟩ := owns_shapeK o'.it; subst hv'; have hcc := HH.it.cells.later (((Keeps.refl _ _).drewN nq).alloc _ |>.any.trans k'.it) (HH.it.ne); have f2 := hcc.frozen 2; have f4 := hcc.frozen 4; have d2 : w'.cell? ⟨p, 2, none⟩ = some (.slice va vl vc) := (by rw [hcc.cell]; rfl); have d4 : w'.cell? ⟨p, 4, none⟩ = some (.int .i64 s) := (by rw [hcc.cell, HS.it]; rfl); have HCC : Aside _ := ⟨hcc⟩; clear hcc)
  go_ret
  have hne : (Value.slice g0 g1 g2).ownBlock ≠ some p := owns_ne o'.it HCC.it (by decide)
  refine ⟨rfl, .slice g0 g1 g2, ⟨⟨?_, ?_, HH.it.glen, ?_, ?_, HH.it.rt63, HH.it.rw63⟩⟩, ⟨?_⟩, ⟨?_⟩⟩
  · have h := (HCC.it.setCell 2 (.slice g0 g1 g2)).setCell 4 (.int .i64 ((s : Int) + n))
    rw [show ((s : Int) + n) = ((sumW (q ++ [(x, n)]) : Nat) : Int) from by rw [sumW_append, ← HS.it, sumW_cons, sumW_nil]; simp] at h ⊢
    exact h
  · have h := owns_later (S := fun k => k = p) o'.it (((Keeps.refl (fun k => k = p) w').setCell ⟨p, 2, none⟩ (.slice g0 g1 g2) (fun _ => rfl)).setCell ⟨p, 4, none⟩ (.int .i64 ((s : Int) + n)) (fun _ => rfl)) (fun b hb e => hne (e ▸ hb))
    rw [flat_append, flat_one, ← List.append_assoc, List.length_append]
    exact h
  · have := HL.it
    have := HM.it
    simp only [List.length_append, List.length_cons, List.length_nil]
    omega
  · have := HN.it
    rw [sumW_append, ← HS.it, sumW_cons, sumW_nil]
    exact this
  · intro k hk
    rcases b'.it k hk with h | h
    · exact .inl h
    · right
      simp only [World.size_alloc] at h
      exact Nat.le_trans (Nat.le_succ _) h
  · exact (((((Keeps.refl _ w).drewN nq).alloc _).trans (k'.it.mono (fun k hk _ => .inr hk))).setCell ⟨p, 2, none⟩ _ (fun _ => .inl rfl)).setCell ⟨p, 4, none⟩ _ (fun _ => .inl rfl)
theorem head_of (x : Value) (w : World) (L : Hid (Calls Tryd.prog 27 #[x] w fun e w' => e = .returned (.int .i64 0) ∧ Keeps Nowhere w w')) :
    Calls Tryd.prog 25 #[x] w fun e w' => e = .returned (.tuple #[.pointer none, .int .i64 0, .bool false]) ∧ Keeps Nowhere w w' := by
  go_enter Tryd.func25, Tryd.ntmps25
  go_wp2_with fail
  refine L.out.mono ?_
  rintro e w1 ⟨rfl, hk⟩
  go_wp2
  refine bodyPost_ret (v := .tuple #[.pointer none, .int .i64 0, .bool false]) (by simp [results, Tryd.results25, go_sem]) rfl ?_
  exact ⟨rfl, hk⟩
theorem head_nil (w : World) : Calls Tryd.prog 25 #[.pointer none] w fun e w' => e = .returned (.tuple #[.pointer none, .int .i64 0, .bool false]) ∧ Keeps Nowhere w w' :=
  head_of _ w (hide ((len_nil w).mono fun e w' h => ⟨h.1, by rw [h.2]; exact Keeps.refl _ _⟩))
theorem head_empty (h : FifoIn w p rt rw [] v first gone) : Calls Tryd.prog 25 #[.pointer (some ⟨p, 0, none⟩)] w fun e w' => e = .returned (.tuple #[.pointer none, .int .i64 0, .bool false]) ∧ Keeps Nowhere w w' :=
  head_of _ w (hide (len_in h))
theorem FifoIn.place (h : FifoIn w p rt rw q v first gone) (i : Nat) (x : El × Nat) (hx : q[i]? = some x) : ∃ g cap, v = .slice (some ⟨g, 0, none⟩) (first + q.length) cap ∧ first + q.length ≤ cap ∧ ∀ j, j < sz + 1 → w.cell? ⟨g, (first + i) * (sz + 1) + j, none⟩ = (fl x)[j]? := by
  rcases h.shape with ⟨_, _, rfl⟩ | ⟨g, cap, rfl, hc, _⟩
  · simp at hx
  · refine ⟨g, cap, rfl, hc, fun j hj => ?_⟩
    obtain ⟨_, a, c, he, _, _, _, hcell⟩ := owns_readsK h.row
    injection he with e1 _ e3
    subst e1 e3
    have hu : ∃ u, (fl x)[j]? = some u := ⟨_, List.getElem?_eq_getElem (by rw [fl_len]; exact hj)⟩
    obtain ⟨u, hu⟩ := hu
    have hat := flat_at q i x hx j hj
    obtain ⟨g', o, he, hce⟩ := hcell ((first + i) * (sz + 1) + j) u (by
      rw [List.getElem?_append_right (by rw [h.glen, Nat.add_mul]; omega), h.glen, ← hu, ← hat]
      congr 1
      rw [Nat.add_mul]
      omega)
    injection he with he
    injection he with e1 e2
    subst e1 e2
    rw [hu, ← hce, Nat.zero_add]
theorem head_in (x : El × Nat) (h : FifoIn w p rt rw (x :: q) v first gone) :
    Calls Tryd.prog 25 #[.pointer (some ⟨p, 0, none⟩)] w fun e w' => e = .returned (.tuple #[.pointer (some ⟨x.1, 0, none⟩), .int .i64 x.2, .bool true]) ∧ Keeps Nowhere w w' := by
  have L := hide (len_in h)
  have hs := h.small
  have HC : Aside _ := ⟨fun w1 (hk : Keeps Nowhere w w1) => h.later hk (fun _ _ x => x)⟩
  clear h
  obtain ⟨m, hm⟩ : ∃ m, m = q.length := ⟨_, rfl⟩
  rw [List.length_cons, ← hm] at L hs
  have HM : Aside _ := ⟨hm⟩
  clear hm
  go_enter Tryd.func25, Tryd.ntmps25
  go_wp2_with fail
  refine L.out.mono ?_
  rintro e w1 ⟨rfl, hk⟩
  have h := HC.it w1 hk
  obtain ⟨g, cap, hv, hcap, hc⟩ := h.place 0 x rfl
  subst hv
  have c2 : w1.cell? ⟨p, 2, none⟩ = some (.slice (some ⟨g, 0, none⟩) (first + (x :: q).length) cap) := by rw [h.cells.cell]; rfl
  have c3 : w1.cell? ⟨p, 3, none⟩ = some (.int .i64 first) := by rw [h.cells.cell]; rfl
  have e0 : w1.cell? ⟨g, first * 2, none⟩ = some (.pointer (some ⟨x.1, 0, none⟩)) := hc 0 (by decide)
  have e1 : w1.cell? ⟨g, first * 2 + 1, none⟩ = some (.int .i64 x.2) := hc 1 (by decide)
  rw [List.length_cons, ← HM.it] at c2
  have K1 : Aside _ := ⟨hk⟩
  clear hk h hc HC
  have hm1 : ((m : Int) + 1) ≠ 0 := by omega
  go_wp2_with fail
  have hi1 : (0 : Int) ≤ first := by omega
  have hi2 : (first : Int) < (first : Int) + ((m : Int) + 1) := by omega
  have a2 := alloc_cell (W := w1) (Obj.cells #[.pointer none, .int .i64 0] 83) (a := ⟨p, 2, none⟩) c2
  have a3 := alloc_cell (W := w1) (Obj.cells #[.pointer none, .int .i64 0] 83) (a := ⟨p, 3, none⟩) c3
  have a0 := alloc_cell (W := w1) (Obj.cells #[.pointer none, .int .i64 0] 83) (a := ⟨g, first * 2, none⟩) e0
  have a1 := alloc_cell (W := w1) (Obj.cells #[.pointer none, .int .i64 0] 83) (a := ⟨g, first * 2 + 1, none⟩) e1
  go_region
  go_wp2_with fail
  go_region
  all_goals go_wp2
  all_goals go_ret3
  all_goals exact ⟨rfl, (K1.it.alloc _).drewN 2⟩
end Go.Proofs.YtfphoaphdfhhiaaDoor.Flaid
