/-
  package fifo at ticket: Remove with a closure that answers by a predicate (two things caught)
-/
import Derived.Test.YtnohcbdnhpaafaaDoorQueMticket
namespace Go.Proofs.YtnohcbdnhpaafaaDoor.Fticket
open Go.RowKit

variable {w w' : World} {p rt rw : Nat} {q : List (El × Nat)} {v : Value} {first : Nat} {gone : List Value}

theorem which_some (w : World) (fn : Fn) (b c : Array Value) : (binOp BinOp.eql 117 (.func fn b c) .nilFunc).run Tryd.prog w = .ok (.bool false) w := by
  kernel_rfl
theorem ReadsK.at2 (h : ReadsK (sz + 1) w v q.length (flat q)) : ∃ a c, v = .slice a q.length c ∧ q.length ≤ c ∧ c ≤ maxLen ∧ ∀ j x, q[j]? = some x → ∃ g o, a = some ⟨g, o, none⟩ ∧ w.cell? ⟨g, o + j * 2, none⟩ = some (.pointer (some ⟨x.1, 0, none⟩)) ∧ w.cell? ⟨g, o + j * 2 + 1, none⟩ = some (.int .i64 x.2) := by
  obtain ⟨_, a, c, he, h1, h2, _, hc⟩ := h
  refine ⟨a, c, he, h1, h2, fun j x hx => ?_⟩
  obtain ⟨g, o, ha, h3⟩ := hc (j * (sz + 1) + 0) (.pointer (some ⟨x.1, 0, none⟩)) (by rw [flat_at q j x hx 0 (by decide)]; rfl)
  obtain ⟨g', o', ha', h4⟩ := hc (j * (sz + 1) + 1) (.int .i64 x.2) (by rw [flat_at q j x hx 1 (by decide)]; rfl)
  rw [ha] at ha'
  injection ha' with ha'
  injection ha' with e1 e2
  subst e1 e2
  exact ⟨g, o, ha, h3, h4⟩

theorem rest_take' (out : El × Nat → Bool) (l : List (El × Nat)) (k : Nat) (x : El × Nat) (h : l[k]? = some x) : (l.take (k + 1)).filter (fun x => !out x) = if out x then (l.take k).filter (fun x => !out x) else (l.take k).filter (fun x => !out x) ++ [x] := by
  rw [List.take_add_one, h]
  cases hb : out x <;> simp [hb]
theorem gone_take' (out : El × Nat → Bool) (l : List (El × Nat)) (k : Nat) (x : El × Nat) (h : l[k]? = some x) : (l.take (k + 1)).countP out = if out x then (l.take k).countP out + 1 else (l.take k).countP out := by
  rw [List.take_add_one, h]
  cases hb : out x <;> simp [hb]
theorem sum_filter (f : El × Nat → Bool) (l : List (El × Nat)) : sumW (l.filter f) ≤ sumW l := by
  induction l with
  | nil => exact Nat.le_refl _
  | cons x l ih =>
    rw [List.filter_cons, sumW_cons]
    split
    · rw [sumW_cons]; omega
    · omega
theorem filter_all (out : El × Nat → Bool) (l : List (El × Nat)) (h : l.countP out = 0) : l.filter (fun x => !out x) = l := by
  rw [List.countP_eq_zero] at h
  rw [List.filter_eq_self]
  intro x hx
  simpa using h x hx

set_option maxHeartbeats 2000000 in
theorem remove_in (h : FifoIn w p rt rw q v first gone) (hh : first ≤ q.length) (hb : q.length * by' ≤ 140737488355328) (c1 c2 : Value) (out : El × Nat → Bool) (R : Nat → World → Prop) (S : Nat → Prop)
    (hcall : ∀ j x W, q[j]? = some x → R j W → Calls Tryd.prog 74 #[.pointer (some ⟨x.1, 0, none⟩), c1, c2] W fun e W' => e = .returned (.bool (out x)) ∧ Aside (R (j + 1) W') ∧ Aside (Keeps S W W'))
    (hR : ∀ j W W', R j W → Keeps (fun k => w.heap.size ≤ k) W W' → R j W') (hS : ∀ k, Own p v k → ¬ S k) (hS' : ∀ k, S k → k < w.heap.size) (h0 : R 0 w) :
    Calls Tryd.prog 73 #[.pointer (some ⟨p, 0, none⟩), .func (.func 74) #[] #[c1, c2]] w fun e w' => e = .returned (.int .i64 (q.countP out)) ∧
      ∃ v' first' gone', Aside (FifoIn w' p rt rw (q.filter (fun x => !out x)) v' first' gone') ∧ Aside (first' ≤ (q.filter (fun x => !out x)).length ∧ first' ≤ first) ∧ Aside (∀ k, v'.ownBlock = some k → v.ownBlock = some k ∨ w.heap.size ≤ k) ∧
        Aside (Keeps (fun k => Own p v k ∨ S k) w w') ∧ Aside (∃ w1, R q.length w1 ∧ Keeps (Own p v) w1 w') := by
  have HD := hide (held_in h)
  obtain ⟨hr, hv⟩ := h.held
  obtain ⟨a, c, he, hlc, hcm, hc⟩ := ReadsK.at2 hr
  rw [he] at HD hv
  have nn := which_some w (.func 74) #[] #[c1, c2]
  obtain ⟨N, hN⟩ : ∃ N, N = q.length := ⟨_, rfl⟩
  rw [← hN] at HD hlc hb hv
  have HN : Aside _ := ⟨hN⟩
  have HB : Aside _ := ⟨hb⟩
  have HC : Aside _ := ⟨hc⟩
  have HV : Aside _ := ⟨hv⟩
  have HF : Aside _ := ⟨h⟩
  have HS : Aside _ := ⟨hS⟩
  have HS' : Aside _ := ⟨hS'⟩
  have HR : Aside _ := ⟨hR⟩
  have H0 : Aside _ := ⟨h0⟩
  have CL : Aside _ := ⟨hcall⟩
  have hn' : (N : Int) ≤ 9223372036854775807 := by unfold maxLen at hcm; omega
  have HH : Aside _ := ⟨hh⟩
  clear hN hb hc h hS hS' hR h0 hcall hr he hcm hv hh
  go_enter Tryd.func73, Tryd.ntmps73
  go_wp2_with (go_at_call 76; refine HD.out.mono ?_; rintro e w1 ⟨rfl, k1⟩)
  have K1 : Aside _ := ⟨k1⟩
  clear k1 nn
  go_loopw [5, 6, 7, 15] (fun s n t i wr => ∃ k : Nat, i = .int .i64 k ∧ k ≤ N ∧ n = .int .i64 ((q.take k).countP out) ∧ t = .int .i64 (sumW ((q.take k).filter (fun x => !out x))) ∧ (∃ a l c, s = .slice a l c) ∧
    Aside (wr.ownsRow w.heap.size 127 (sz + 1) s ((q.take k).filter (fun x => !out x)).length (flat ((q.take k).filter (fun x => !out x)))) ∧ Aside (R k wr) ∧ Aside (Keeps S w wr)) (fun _ _ _ i _ => N - (intOf i).toNat)
  case atStart => exact ⟨0, rfl, Nat.zero_le _, rfl, rfl, ⟨_, _, _, rfl⟩, ⟨World.ownsRow_nil _ _ _ _⟩, ⟨HR.it 0 _ _ H0.it K1.it.any⟩, ⟨K1.it.any⟩⟩
  case round =>
    obtain ⟨k, rfl, hk, rfl, rfl, ⟨a1, l1, b1, rfl⟩, ho, hRk, hkk⟩ := hrel
    rcases Nat.eq_or_lt_of_le hk with rfl | hlt
    · have etk : q.take k = q := by rw [HN.it, List.take_length]
      rw [etk] at ho ⊢
      have HF2 : Aside _ := ⟨HF.it.later hkk.it HS.it⟩
      clear etk
      by_cases hz : q.countP out = 0
      · rw [hz]
        have EF := filter_all out q hz
        have HE : Aside _ := ⟨EF⟩
        have HZ : Aside _ := ⟨hz⟩
        clear hz EF
        go_wp2
        all_goals first
          | (exfalso; omega)
          | skip
        go_ret
        refine ⟨by rw [HZ.it]; rfl, v, first, gone, ⟨by rw [HE.it]; exact HF2.it⟩, ⟨by rw [HE.it]; exact ⟨HH.it, Nat.le_refl _⟩⟩, ⟨fun k hk => .inl hk⟩, ⟨hkk.it.mono (fun k hk _ => .inr hk)⟩, ⟨_, by rw [← HN.it]; exact hRk.it, Keeps.refl _ _⟩⟩
      · obtain ⟨t, ht⟩ : ∃ t, t = q.countP out := ⟨_, rfl⟩
        obtain ⟨s, hs⟩ : ∃ s, s = sumW (q.filter (fun x => !out x)) := ⟨_, rfl⟩
        rw [← ht] at hz ⊢
        rw [← hs]
        have hz' : (0 : Int) < t := by omega
        have HSS : Aside _ := ⟨hs⟩
        have d2 : wr.cell? ⟨p, 2, none⟩ = some v := by rw [HF2.it.cells.cell]; rfl
        have d3 : wr.cell? ⟨p, 3, none⟩ = some (.int .i64 first) := by rw [HF2.it.cells.cell]; rfl
        have d4 : wr.cell? ⟨p, 4, none⟩ = some (.int .i64 (sumW q)) := by rw [HF2.it.cells.cell]; rfl
        have f2 := HF2.it.cells.frozen 2
        have f3 := HF2.it.cells.frozen 3
        have f4 := HF2.it.cells.frozen 4
        obtain ⟨va, vl, vc, hv⟩ : ∃ a l c, v = .slice a l c := owns_shapeK HF2.it.row
        subst hv
        have HT : Aside _ := ⟨ht⟩
        clear ht hs hz
        go_wp2
        all_goals first
          | (exfalso; omega)
          | skip
        go_ret
        have hne : (Value.slice a1 l1 b1).ownBlock ≠ some p := owns_ne ho.it HF2.it.cells (by decide)
        refine ⟨by rw [← HT.it]; rfl, .slice a1 l1 b1, 0, [], ⟨⟨?_, ?_, rfl, ?_, ?_, HF.it.rt63, HF.it.rw63⟩⟩, ⟨Nat.zero_le _, Nat.zero_le _⟩, ⟨fun k hk => .inr (owns_base ho.it k hk)⟩, ⟨?_⟩, ⟨wr, by rw [← HN.it]; exact hRk.it, ?_⟩⟩
        · have h := ((HF2.it.cells.setCell 2 (.slice a1 l1 b1)).setCell 3 (.int .i64 0)).setCell 4 (.int .i64 s)
          rw [HSS.it] at h ⊢
          exact h
        · have h := owns_later (S := fun k => k = p) (owns_any ho.it) ((((Keeps.refl (fun k => k = p) wr).setCell ⟨p, 2, none⟩ (.slice a1 l1 b1) (fun _ => rfl)).setCell ⟨p, 3, none⟩ (.int .i64 0) (fun _ => rfl)).setCell ⟨p, 4, none⟩ (.int .i64 s) (fun _ => rfl)) (fun b hb e => hne (e ▸ hb))
          rw [Nat.zero_add, List.nil_append]
          exact h
        · exact Nat.le_trans (List.length_filter_le _ _) HF.it.things
        · exact Nat.le_trans (sum_filter _ _) HF.it.weight
        · exact (((hkk.it.mono (fun k hk _ => .inr hk)).setCell ⟨p, 2, none⟩ _ (fun _ => .inl (.inl rfl))).setCell ⟨p, 3, none⟩ _ (fun _ => .inl (.inl rfl))).setCell ⟨p, 4, none⟩ _ (fun _ => .inl (.inl rfl))
        · exact (((Keeps.refl _ wr).setCell ⟨p, 2, none⟩ _ (fun _ => .inl rfl)).setCell ⟨p, 3, none⟩ _ (fun _ => .inl rfl)).setCell ⟨p, 4, none⟩ _ (fun _ => .inl rfl)
    · obtain ⟨x, hx⟩ : ∃ x, q[k]? = some x := ⟨_, List.getElem?_eq_getElem (by rw [← HN.it]; exact hlt)⟩
      obtain ⟨g, o, rfl, e0, e1⟩ := HC.it k x hx
      have hg : ¬ S g := HS.it g (.inr (HV.it g rfl))
      have e0' : wr.cell? ⟨g, o + k * 2, none⟩ = some (.pointer (some ⟨x.1, 0, none⟩)) := by
        rw [World.cell?_of_block (w := w) (hkk.it.block g (World.block_lt_of_cell? w _ e0) hg)]; exact e0
      have e1' : wr.cell? ⟨g, o + k * 2 + 1, none⟩ = some (.int .i64 x.2) := by
        rw [World.cell?_of_block (w := w) (hkk.it.block g (World.block_lt_of_cell? w _ e1) hg)]; exact e1
      have RT := rest_take' out q k x hx
      have GT := gone_take' out q k x hx
      obtain ⟨W2, hW2⟩ : ∃ W2, W2 = wr.alloc (.cells #[.pointer (some ⟨x.1, 0, none⟩), .int .i64 x.2] 127) := ⟨_, rfl⟩
      have K2 : Aside (Keeps Nowhere wr W2) := ⟨by rw [hW2]; exact (Keeps.refl _ _).alloc _⟩
      have D2 : Aside (Cells W2 wr.heap.size 127 [.pointer (some ⟨x.1, 0, none⟩), .int .i64 x.2]) := ⟨by rw [hW2]; exact Cells.new wr _ _⟩
      have II := hide (CL.it k x W2 hx (HR.it k _ _ hRk.it K2.it.any))
      have hgl : (q.take k).countP out ≤ k := Nat.le_trans List.countP_le_length (by rw [List.length_take]; omega)
      have hrl : Aside (((q.take k).filter (fun x => !out x)).length ≤ k) := ⟨Nat.le_trans (List.length_filter_le _ _) (by rw [List.length_take]; omega)⟩
      have hsl : sumW ((q.take (k + 1)).filter (fun x => !out x)) ≤ 9223372036854775807 := Nat.le_trans (sum_filter _ _) (Nat.le_trans (by
        conv => rhs; rw [← List.take_append_drop (k + 1) q, sumW_append]
        exact Nat.le_add_right _ _) (Nat.le_trans HF.it.weight HF.it.rw63))
      obtain ⟨t, ht⟩ : ∃ t, t = (q.take k).countP out := ⟨_, rfl⟩
      obtain ⟨s, hs⟩ : ∃ s, s = sumW ((q.take k).filter (fun x => !out x)) := ⟨_, rfl⟩
      rw [← ht] at hgl GT ⊢
      rw [← hs]
      have HSS : Aside _ := ⟨hs⟩
      have RT' : Aside _ := ⟨RT⟩
      have GT' : Aside _ := ⟨GT⟩
      have HSZ : Aside (∀ k, S k → k < W2.heap.size) := ⟨fun k hk' => Nat.lt_of_lt_of_le (HS'.it k hk') (Nat.le_trans hkk.it.size K2.it.size)⟩
      have HNS : Aside (¬ S wr.heap.size) := ⟨fun hs' => by have := HS'.it _ hs'; have := hkk.it.size; omega⟩
      clear hx e0 e1 GT ht hs hg
      cases hb : out x with
      | true =>
        rw [hb] at II
        rw [if_pos hb] at RT' GT'
        clear hsl RT hb
        go_upto_region 8 with fail
        rw [← hW2]
        clear hW2
        have d0 : W2.cell? ⟨wr.heap.size, 0, none⟩ = some (.pointer (some ⟨x.1, 0, none⟩)) := by rw [D2.it.cell]; rfl
        go_wp2_with fail
        refine II.out.mono ?_
        rintro e w3 ⟨rfl, r3, k3⟩
        have KS : Aside (Keeps S w w3) := ⟨(hkk.it.trans K2.it.any).trans k3.it⟩
        have O3 : Aside _ := ⟨owns_later (owns_later ho.it K2.it (fun _ _ x => x)) k3.it (fun b hb hs' => by have := HS'.it b hs'; have := owns_base ho.it b hb; omega)⟩
        clear d0
        go_wp2
        all_goals first
          | (exfalso; omega)
          | skip
        go_roundw
        case rel => exact ⟨k + 1, by go_num, by omega, by rw [GT'.it]; go_num, by rw [RT'.it, ← HSS.it], ⟨_, _, _, rfl⟩, ⟨by rw [RT'.it]; exact O3.it⟩, r3, KS⟩
        case measure => simp [intOf]; omega
      | false =>
        rw [hb] at II
        have hbn : ¬ out x = true := by rw [hb]; simp
        rw [if_neg hbn] at RT' GT'
        rw [if_neg hbn] at RT
        rw [RT, sumW_append, ← HSS.it, sumW_cons, sumW_nil, Nat.add_zero] at hsl
        have hsl' : (s : Int) + x.2 ≤ 9223372036854775807 := by omega
        clear hsl RT hb hbn
        go_upto_region 8 with fail
        rw [← hW2]
        clear hW2
        have d0 : W2.cell? ⟨wr.heap.size, 0, none⟩ = some (.pointer (some ⟨x.1, 0, none⟩)) := by rw [D2.it.cell]; rfl
        go_wp2_with fail
        refine II.out.mono ?_
        rintro e w3 ⟨rfl, r3, k3⟩
        have KS : Aside (Keeps S w w3) := ⟨(hkk.it.trans K2.it.any).trans k3.it⟩
        have O3 : Aside _ := ⟨owns_later (owns_later ho.it K2.it (fun _ _ x => x)) k3.it (fun b hb hs' => by have := HS'.it b hs'; have := owns_base ho.it b hb; omega)⟩
        have D3 : Aside _ := ⟨D2.it.later k3.it HNS.it⟩
        have y0 : w3.cell? ⟨wr.heap.size, 0, none⟩ = some (.pointer (some ⟨x.1, 0, none⟩)) := by rw [D3.it.cell]; rfl
        have y1 : w3.cell? ⟨wr.heap.size, 1, none⟩ = some (.int .i64 x.2) := by rw [D3.it.cell]; rfl
        have SW : Aside (wr.heap.size < w3.heap.size) := ⟨D3.it.lt⟩
        have HB0 : Aside (∀ b, (Value.slice a1 l1 b1).ownBlock = some b → b ≠ wr.heap.size) := ⟨fun b hb => by have := owns_lt ho.it b hb; omega⟩
        clear d0
        go_wp2_with (at_builtin; refine wpList_appendR rfl (.tmp 25) (.tmp 27) 118 rfl 127 zeroW (sz + 1) by' Tryd.underlying118 info rfl (by decide) w3 ((Keeps.refl _ _).alloc _) w.heap.size _ _ _ O3.it _ 1 (fl x) (readsK_new _ _ (fl x)) (flat_one x ▸ flat_one' [x]) (by have h1 := HB.it; have h2 := hrl.it; simp only [by'] at h1 ⊢; omega) (by unfold maxLen; have h1 := HB.it; have h2 := hrl.it; simp only [by'] at h1; omega) KS.it.size rfl rfl ?_; intro v' w' o' k' b'; obtain ⟨g0, g1, g2, hv'⟩ := owns_shapeK o'.it; subst hv'; have dd := D3.it.later (((Keeps.refl _ w3).alloc _).trans k'.it) (fun e => HB0.it _ e rfl); have x1 : w'.cell? ⟨wr.heap.size, 1, none⟩ = some (.int .i64 x.2) := (by rw [dd.cell]; rfl); clear dd y0 y1)
        all_goals first
          | (exfalso; omega)
          | skip
        go_roundw
        case rel =>
          refine ⟨k + 1, by go_num, by omega, by rw [GT'.it], ?_, ⟨_, _, _, rfl⟩, ⟨?_⟩, ⟨HR.it _ _ _ r3.it ?_⟩, ⟨?_⟩⟩
          · rw [RT'.it, sumW_append, ← HSS.it, sumW_cons, sumW_nil, Nat.add_zero]
            go_num
          · have := o'.it
            rw [RT'.it, flat_append, flat_one, List.length_append]
            exact this
          · exact ((Keeps.refl _ w3).alloc _).trans (k'.it.mono (fun b hb _ => owns_base ho.it b hb))
          · exact (KS.it.alloc _).next k'.it (fun b hb hlt => by have := owns_base ho.it b hb; omega)
        case measure => simp [intOf]; omega
end Go.Proofs.YtnohcbdnhpaafaaDoor.Fticket
