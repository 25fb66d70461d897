/-
  culvertref03: Sum, copied, New
-/
import Derived.Test.YtnljgklmaljfjaaDoorRef03
namespace Go.Proofs.YtnljgklmaljfjaaDoor
open Go.RowKit Fint

theorem sumW_take (l : Things) (k : Nat) (x : Int × Nat) (h : l[k]? = some x) : sumW (l.take (k + 1)) = sumW (l.take k) + x.2 := by
  rw [List.take_add_one, h, sumW_append]
  rfl
theorem sumW_le (l : Things) (k : Nat) : sumW (l.take k) ≤ sumW l := by
  conv => rhs; rw [← List.take_append_drop k l, sumW_append]
  omega
theorem refSum_ok (w : World) (rt rw : Int) (s : Value) (l : Things) (hr : ReadsK 2 w s l.length (flat l)) (hs : sumW l ≤ 9223372036854775807) :
    Calls Tryd.prog 30 #[.agg #[.int .i64 rt, .int .i64 rw, s]] w fun e w' => e = .returned (.int .i64 (sumW l)) ∧ Aside (Keeps Nowhere w w') := by
  obtain ⟨a, c, rfl, hlc, hcm, hc⟩ := hr.at
  obtain ⟨N, hN⟩ : ∃ N, N = l.length := ⟨_, rfl⟩
  rw [← hN] at hlc ⊢
  have HC : Aside _ := ⟨hc⟩
  have HN : Aside _ := ⟨hN⟩
  have HS : Aside _ := ⟨hs⟩
  have hn' : (N : Int) ≤ 9223372036854775807 := by unfold maxLen at hcm; omega
  clear hc hN hr hcm hs
  obtain ⟨w1, hw1⟩ : ∃ w1, w1 = w.alloc (.cells #[.int .i64 rt, .int .i64 rw, .slice a N c] 35) := ⟨_, rfl⟩
  have K1 : Aside (Keeps Nowhere w w1) := ⟨by rw [hw1]; exact (Keeps.refl _ _).alloc _⟩
  have C1 : Cells w1 w.heap.size 35 [.int .i64 rt, .int .i64 rw, .slice a N c] := by rw [hw1]; exact Cells.new w _ _
  have c2 : w1.cell? ⟨w.heap.size, 2, none⟩ = some (.slice a N c) := by rw [C1.cell]; rfl
  clear C1
  go_enter Tryd.func30, Tryd.ntmps30
  go_wp2_with fail
  rw [← hw1]
  have HW : Aside _ := ⟨hw1⟩
  clear hw1
  go_loop [3, 4] (fun n i => ∃ k : Nat, i = .int .i64 k ∧ k ≤ N ∧ n = .int .i64 (sumW (l.take k))) (fun _ i => N - (intOf i).toNat)
  case atStart => exact ⟨0, rfl, Nat.zero_le _, rfl⟩
  case round =>
    obtain ⟨k, rfl, hk, rfl⟩ := hrel
    rcases Nat.eq_or_lt_of_le hk with rfl | hlt
    · go_wp2
      all_goals first
        | (exfalso; omega)
        | skip
      go_ret
      refine ⟨?_, K1⟩
      rw [HN.it, List.take_length]
      rfl
    · obtain ⟨x, hx⟩ : ∃ x, l[k]? = some x := ⟨_, List.getElem?_eq_getElem (by rw [← HN.it]; exact hlt)⟩
      obtain ⟨g, o, rfl, _, e1⟩ := HC.it k x hx
      have e1' : w1.cell? ⟨g, o + k * 2 + 1, none⟩ = some (.int .i64 x.2) := by
        rw [K1.it.bel.cell (World.block_lt_of_cell? w _ e1)]; exact e1
      have h1 := sumW_take l k x hx
      have h2 : sumW (l.take (k + 1)) ≤ 9223372036854775807 := Nat.le_trans (sumW_le l (k + 1)) HS.it
      obtain ⟨t, ht⟩ : ∃ t, t = sumW (l.take k) := ⟨_, rfl⟩
      rw [h1, ← ht] at h2
      rw [← ht]
      have HT : Aside _ := ⟨ht⟩
      have H1 : Aside _ := ⟨h1⟩
      have h2' : (t : Int) + x.2 ≤ 9223372036854775807 := by omega
      clear ht h1 h2 hx e1
      go_wp2
      all_goals first
        | (exfalso; omega)
        | skip
      go_round
      case rel => exact ⟨k + 1, by go_num, by omega, by rw [H1.it, ← HT.it]; go_num⟩
      case measure => simp [intOf]; omega
theorem refCopied_ok (w : World) (s : Value) (l : Things) (hr : ReadsK 2 w s l.length (flat l)) (hb : l.length * 16 ≤ 140737488355328) :
    Calls Tryd.prog 31 #[s] w fun e w' => ∃ s', e = .returned s' ∧ Aside (w'.ownsRow w.heap.size 46 2 s' l.length (flat l)) ∧ Aside (Keeps Nowhere w w') := by
  obtain ⟨a, c, rfl, hlc, hcm, hc⟩ := hr.at
  obtain ⟨N, hN⟩ : ∃ N, N = l.length := ⟨_, rfl⟩
  rw [← hN] at hlc hb ⊢
  have HC : Aside _ := ⟨hc⟩
  have HN : Aside _ := ⟨hN⟩
  have HB : Aside _ := ⟨hb⟩
  have hn' : (N : Int) ≤ 9223372036854775807 := by unfold maxLen at hcm; omega
  clear hc hN hr hcm hb
  go_enter Tryd.func31, Tryd.ntmps31
  go_wp2_with fail
  go_loopw [3, 4] (fun s i wr => ∃ k : Nat, i = .int .i64 k ∧ k ≤ N ∧ (∃ a l c, s = .slice a l c) ∧ Aside (wr.ownsRow w.heap.size 46 2 s k (flat (l.take k))) ∧ Aside (Keeps Nowhere w wr)) (fun _ i _ => N - (intOf i).toNat)
  case atStart => exact ⟨0, rfl, Nat.zero_le _, ⟨_, _, _, rfl⟩, ⟨World.ownsRow_nil _ _ _ _⟩, ⟨Keeps.refl _ _⟩⟩
  case round =>
    obtain ⟨k, rfl, hk, ⟨a1, l1, c1, rfl⟩, ho, hkk⟩ := hrel
    rcases Nat.eq_or_lt_of_le hk with rfl | hlt
    · go_wp2
      all_goals first
        | (exfalso; omega)
        | skip
      go_ret
      refine ⟨_, rfl, ⟨?_⟩, hkk⟩
      have := ho.it
      rw [show l.take k = l by rw [HN.it, List.take_length]] at this
      exact this
    · obtain ⟨x, hx⟩ : ∃ x, l[k]? = some x := ⟨_, List.getElem?_eq_getElem (by rw [← HN.it]; exact hlt)⟩
      obtain ⟨g, o, rfl, e0, e1⟩ := HC.it k x hx
      have e0' : wr.cell? ⟨g, o + k * 2, none⟩ = some (.int .i64 x.1) := by
        rw [hkk.it.bel.cell (World.block_lt_of_cell? w _ e0)]; exact e0
      have e1' : wr.cell? ⟨g, o + k * 2 + 1, none⟩ = some (.int .i64 x.2) := by
        rw [hkk.it.bel.cell (World.block_lt_of_cell? w _ e1)]; exact e1
      have HX : Aside _ := ⟨hx⟩
      clear hx e0 e1
      go_wp2_with (at_builtin; refine wpList_appendR rfl (.tmp 11) (.tmp 16) 33 rfl 46 (.agg #[.int .i64 0, .int .i64 0]) 2 16 Tryd.underlying33 thingInfo rfl (by decide) wr ((Keeps.refl _ _).alloc _) w.heap.size _ _ _ ho.it _ 1 (fl x) (readsK_new _ _ (fl x)) (flat_one x ▸ flat_one' [x]) (by have := HB.it; omega) (by unfold maxLen; have := HB.it; omega) hkk.it.size rfl rfl ?_; intro v' w' o' k' b'; obtain ⟨g0, g1, g2, hv'⟩ := owns_shapeK o'.it; subst hv')
      go_roundw
      case rel =>
        refine ⟨k + 1, by go_num, by omega, ⟨_, _, _, rfl⟩, ⟨?_⟩, ⟨?_⟩⟩
        · have := o'.it
          rw [show flat (l.take (k + 1)) = flat (l.take k) ++ fl x by rw [List.take_add_one, HX.it, flat_append]; exact congrArg _ (flat_one x)]
          exact this
        · exact (hkk.it.alloc _).next k'.it (fun b hb hlt => by have := owns_base ho.it b hb; omega)
      case measure => simp [intOf]; omega
end Go.Proofs.YtnljgklmaljfjaaDoor
