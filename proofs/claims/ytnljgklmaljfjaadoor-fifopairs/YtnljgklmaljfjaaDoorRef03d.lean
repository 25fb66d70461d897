/-
  culvertref03: Put that goes in; Get
-/
import Derived.Test.YtnljgklmaljfjaaDoorRef03c
namespace Go.Proofs.YtnljgklmaljfjaaDoor
open Go.RowKit Fint

theorem refPut_ok (w : World) (rt rw : Nat) (a : Option Addr) (c : Nat) (l : Things) (x : Int) (n : Nat) (hr : ReadsK 2 w (.slice a l.length c) l.length (flat l)) (hs : sumW l ≤ rw) (hrw : rw ≤ 9223372036854775807) (hl : l.length < rt) (hn : sumW l + n ≤ rw)
    (hb : (l.length + 1) * 16 ≤ 140737488355328) :
    Calls Tryd.prog 9 #[.agg #[.int .i64 rt, .int .i64 rw, .slice a l.length c], .int .i64 x, .int .i64 n] w fun e w' => ∃ s', e = .returned (.tuple #[.agg #[.int .i64 rt, .int .i64 rw, s'], .int .i64 0]) ∧
      Aside (RefAns w w' (.slice a l.length c) s' (l ++ [(x, n)])) := by
  obtain ⟨W1, hW1⟩ : ∃ W1, W1 = (w.alloc (.cells #[.int .i64 rt, .int .i64 rw, .slice a l.length c] 35)).alloc (.cells #[.int .i64 0, .int .i64 0, .slice none 0 0] 35) := ⟨_, rfl⟩
  have K1 : Aside (Keeps Nowhere w W1) := ⟨by rw [hW1]; exact ((Keeps.refl _ _).alloc _).alloc _⟩
  have SZ : Aside (W1.heap.size = w.heap.size + 2) := ⟨by rw [hW1]; simp⟩
  have C0 : Aside (Cells W1 w.heap.size 35 [.int .i64 rt, .int .i64 rw, .slice a l.length c]) := ⟨by rw [hW1]; exact (Cells.new w _ _).later (S := Nowhere) ((Keeps.refl _ _).alloc _) (fun x => x)⟩
  have C1 : Aside (Cells W1 (w.heap.size + 1) 35 [.int .i64 0, .int .i64 0, .slice none 0 0]) := ⟨by
    have h := Cells.new (w.alloc (.cells #[.int .i64 rt, .int .i64 rw, .slice a l.length c] 35)) 35 [.int .i64 0, .int .i64 0, .slice none 0 0]
    rw [World.size_alloc] at h
    rw [hW1]; exact h⟩
  have SM := hide (refSum_ok W1 rt rw _ l (hr.later K1.it (fun _ _ x => x)) (Nat.le_trans hs hrw))
  have CP : Aside _ := ⟨fun w2 (k : Keeps Nowhere W1 w2) => refCopied_ok w2 _ l (hr.later (K1.it.trans k) (fun _ _ x => x)) (by omega)⟩
  have HB : Aside _ := ⟨hb⟩
  clear hr hb
  obtain ⟨N, hN⟩ : ∃ N, N = l.length := ⟨_, rfl⟩
  obtain ⟨t, ht⟩ : ∃ t, t = sumW l := ⟨_, rfl⟩
  rw [← hN] at hW1 C0 SM hl CP HB ⊢
  rw [← ht] at SM hn hs
  have HN : Aside _ := ⟨hN⟩
  clear hN ht
  have d0 : W1.cell? ⟨w.heap.size, 0, none⟩ = some (.int .i64 rt) := by rw [C0.it.cell]; rfl
  have d1 : W1.cell? ⟨w.heap.size, 1, none⟩ = some (.int .i64 rw) := by rw [C0.it.cell]; rfl
  have d2 : W1.cell? ⟨w.heap.size, 2, none⟩ = some (.slice a N c) := by rw [C0.it.cell]; rfl
  have hn0 : (0 : Int) ≤ n := by omega
  go_enter Tryd.func9, Tryd.ntmps9
  go_wp2_with fail
  rw [← hW1]
  have HW1 : Aside _ := ⟨hW1⟩
  clear hW1
  go_wp2_with fail
  refine SM.out.mono ?_
  rintro e w2 ⟨rfl, k2⟩
  have c0 := C0.it.later k2.it (fun x => x)
  have e0 : w2.cell? ⟨w.heap.size, 0, none⟩ = some (.int .i64 rt) := by rw [c0.cell]; rfl
  have e1 : w2.cell? ⟨w.heap.size, 1, none⟩ = some (.int .i64 rw) := by rw [c0.cell]; rfl
  have e2 : w2.cell? ⟨w.heap.size, 2, none⟩ = some (.slice a N c) := by rw [c0.cell]; rfl
  have E0 : Aside _ := ⟨c0⟩
  have E1 : Aside _ := ⟨C1.it.later k2.it (fun x => x)⟩
  clear c0 d0 d1 d2
  have hl' : (N : Int) < rt := by omega
  have hn' : (n : Int) ≤ (rw : Int) - t := by omega
  clear hl hn hs
  go_wp2_with fail
  all_goals first
    | (exfalso; omega)
    | skip
  refine (CP.it w2 k2.it).mono ?_
  rintro e w3 ⟨s3, rfl, o3, k3⟩
  obtain ⟨x0, x1, x2, hx⟩ := owns_shapeK o3.it
  subst hx
  have c0 := E0.it.later k3.it (fun x => x)
  have c1 := E1.it.later k3.it (fun x => x)
  have F0 : Aside _ := ⟨c0⟩
  have F1 : Aside _ := ⟨c1⟩
  clear c0 c1 e0 e1 e2
  go_wp2_with (at_builtin; refine wpList_appendR rfl (.tmp 33) (.tmp 37) 33 rfl 46 (.agg #[.int .i64 0, .int .i64 0]) 2 16 Tryd.underlying33 thingInfo rfl (by decide) w3 ((Keeps.refl _ _).alloc _) w2.heap.size _ _ _ o3.it _ 1 (fl (x, n)) (readsK_new _ _ (fl (x, n))) (flat_one (x, n) ▸ flat_one' [(x, n)]) HB.it (by unfold maxLen; have := HB.it; omega) k3.it.size rfl rfl ?_; intro v' w' o' k' b'; obtain ⟨g0, g1, g2, hv'⟩ := owns_shapeK o'.it; subst hv'; have q1 := owns_ne o3.it F0.it (by decide); have q2 := owns_ne o3.it F1.it (by decide); have c0 := F0.it.later (((Keeps.refl _ w3).alloc _).trans k'.it) q1; have c1 := F1.it.later (((Keeps.refl _ w3).alloc _).trans k'.it) q2; have e0 : w'.cell? ⟨w.heap.size, 0, none⟩ = some (.int .i64 rt) := (by rw [c0.cell]; rfl); have e1 : w'.cell? ⟨w.heap.size, 1, none⟩ = some (.int .i64 rw) := (by rw [c0.cell]; rfl); have e2 : w'.cell? ⟨w.heap.size, 2, none⟩ = some (.slice a N c) := (by rw [c0.cell]; rfl); have f0 : w'.cell? ⟨w.heap.size + 1, 0, none⟩ = some (.int .i64 0) := (by rw [c1.cell]; rfl); have f1 : w'.cell? ⟨w.heap.size + 1, 1, none⟩ = some (.int .i64 0) := (by rw [c1.cell]; rfl); have f2 : w'.cell? ⟨w.heap.size + 1, 2, none⟩ = some (.slice none 0 0) := (by rw [c1.cell]; rfl); have y2 := c0.frozen 2; have z0 := c1.frozen 0; have z1 := c1.frozen 1; have z2 := c1.frozen 2; have G0 : Aside _ := ⟨c0⟩; have G1 : Aside _ := ⟨c1⟩; clear c0 c1 q1 q2)
  obtain ⟨W, hW⟩ : ∃ W, W = (((w'.setCell ⟨w.heap.size, 2, none⟩ (.slice g0 g1 g2)).setCell ⟨w.heap.size + 1, 0, none⟩ (.int .i64 rt)).setCell ⟨w.heap.size + 1, 1, none⟩ (.int .i64 rw)).setCell ⟨w.heap.size + 1, 2, none⟩ (.slice g0 g1 g2) := ⟨_, rfl⟩
  rw [← hW]
  have hC : Cells W (w.heap.size + 1) 35 [.int .i64 rt, .int .i64 rw, .slice g0 g1 g2] := by
    rw [hW]
    exact (((G1.it.setOther ⟨w.heap.size, 2, none⟩ _ (by simp)).setCell 0 (.int .i64 rt)).setCell 1 (.int .i64 rw)).setCell 2 (.slice g0 g1 g2)
  have r0 : W.cell? ⟨w.heap.size + 1, 0, none⟩ = some (.int .i64 rt) := by rw [hC.cell]; rfl
  have r1 : W.cell? ⟨w.heap.size + 1, 1, none⟩ = some (.int .i64 rw) := by rw [hC.cell]; rfl
  have r2 : W.cell? ⟨w.heap.size + 1, 2, none⟩ = some (.slice g0 g1 g2) := by rw [hC.cell]; rfl
  refine bodyPost_ret (v := .tuple #[.agg #[.int .i64 rt, .int .i64 rw, .slice g0 g1 g2], .int .i64 0]) (by simp [results, Tryd.results9, go_sem, r0, r1, r2]) rfl ?_
  have hg : ∀ k, (Value.slice g0 g1 g2).ownBlock = some k → w2.heap.size ≤ k := owns_base o'.it
  have hs2 : w.heap.size + 2 ≤ w2.heap.size := by rw [← SZ.it]; exact k2.it.size
  have kk : Keeps (fun k => k = w.heap.size ∨ k = w.heap.size + 1) w' W := by
    rw [hW]
    exact ((((Keeps.refl _ w').setCell ⟨w.heap.size, 2, none⟩ _ (fun _ => .inl rfl)).setCell ⟨w.heap.size + 1, 0, none⟩ _ (fun _ => .inr rfl)).setCell ⟨w.heap.size + 1, 1, none⟩ _ (fun _ => .inr rfl)).setCell ⟨w.heap.size + 1, 2, none⟩ _ (fun _ => .inr rfl)
  refine ⟨_, rfl, ⟨⟨?_, fun k hk => .inr (by have := hg k hk; omega), ?_, fun k hk => Nat.lt_of_lt_of_le (owns_lt o'.it k hk) kk.size⟩⟩⟩
  · have h := owns_readsK (owns_later o'.it kk (fun b hb e => by have := hg b hb; omega))
    rw [flat_append, flat_one, List.length_append, ← HN.it]
    exact h
  · have k4 : Keeps Nowhere w w' := ((K1.it.trans k2.it).trans k3.it).next (((Keeps.refl _ w3).alloc _).trans k'.it) (fun b hb hlt => by have := owns_base o3.it b hb; omega)
    exact k4.next kk (fun b hb hlt => by omega)
theorem refGet_none (w : World) (rt rw : Nat) (a : Option Addr) (c : Nat) :
    Calls Tryd.prog 12 #[.agg #[.int .i64 rt, .int .i64 rw, .slice a 0 c]] w fun e w' => e = .returned (.tuple #[.agg #[.int .i64 rt, .int .i64 rw, .slice a 0 c], .agg #[.int .i64 0, .int .i64 0], .bool false]) ∧ Aside (Keeps Nowhere w w') := by
  go_enter Tryd.func12, Tryd.ntmps12
  go_wp2
  refine bodyPost_ret (v := .tuple #[.agg #[.int .i64 rt, .int .i64 rw, .slice a 0 c], .agg #[.int .i64 0, .int .i64 0], .bool false]) (by simp [results, Tryd.results12, go_sem]) rfl ?_
  exact ⟨rfl, ⟨(((Keeps.refl _ _).alloc _).alloc _).alloc _⟩⟩
set_option maxHeartbeats 1000000 in
theorem refGet_some (w : World) (rt rw : Nat) (a : Option Addr) (c : Nat) (x : Int × Nat) (l : Things) (hr : ReadsK 2 w (.slice a (l.length + 1) c) (l.length + 1) (flat (x :: l))) (hb : l.length * 16 ≤ 140737488355328) :
    Calls Tryd.prog 12 #[.agg #[.int .i64 rt, .int .i64 rw, .slice a (l.length + 1) c]] w fun e w' => ∃ s', e = .returned (.tuple #[.agg #[.int .i64 rt, .int .i64 rw, s'], .agg #[.int .i64 x.1, .int .i64 x.2], .bool true]) ∧
      Aside (RefAns w w' (.slice a (l.length + 1) c) s' l) := by
  obtain ⟨a', c', he, hlc, hcm, hc⟩ := ReadsK.at (l := x :: l) hr
  injection he with e1 e2 e3
  subst e1 e3
  obtain ⟨g, o, rfl, y0, y1⟩ := hc 0 x rfl
  rw [Nat.zero_mul, Nat.add_zero] at y0 y1
  have hr2 : ReadsK 2 w (.slice (some ⟨g, if c = 1 then o else o + 2, none⟩) l.length (c - 1)) l.length (flat l) := by
    refine ⟨flat_len l, _, _, rfl, by simp only [List.length_cons] at hlc; omega, by omega, fun h => (by cases h), fun j u hj => ?_⟩
    obtain ⟨_, a2, c2, he2, _, _, _, hcell⟩ := hr
    injection he2 with e1 _ e3
    subst e1 e3
    obtain ⟨g2, o2, he3, hce⟩ := hcell (2 + j) u (by rw [flat_cons, List.getElem?_append_right (by rw [fl_len]; show 1 + 1 ≤ 2 + j; omega), fl_len, show 2 + j - (sz + 1) = j from Nat.add_sub_cancel_left 2 j]; exact hj)
    injection he3 with he3
    injection he3 with e1 e2
    subst e1 e2
    have hjl : j < l.length * 2 := by have := (List.getElem?_eq_some_iff.1 hj).1; rwa [flat_len] at this
    refine ⟨g, o + 2, by rw [if_neg (by simp only [List.length_cons] at hlc; omega)], ?_⟩
    rw [← hce, Nat.add_assoc]
  have CP : Aside _ := ⟨fun w2 (k : Keeps Nowhere w w2) => refCopied_ok w2 _ l (hr2.later k (fun _ _ x => x)) hb⟩
  have HLC : Aside _ := ⟨hlc⟩
  clear hr hr2 hc hb
  obtain ⟨N, hN⟩ : ∃ N, N = l.length := ⟨_, rfl⟩
  rw [List.length_cons, ← hN] at hlc
  rw [← hN] at CP ⊢
  have HN : Aside _ := ⟨hN⟩
  have hcm' : (c : Int) ≤ 9223372036854775807 := by unfold maxLen at hcm; omega
  clear hN hcm
  have hN1 : ((N : Int) + 1) ≠ 0 := by omega
  obtain ⟨W1, hW1⟩ : ∃ W1, W1 = (((w.alloc (.cells #[.int .i64 rt, .int .i64 rw, .slice (some ⟨g, o, none⟩) (N + 1) c] 35)).alloc (.cells #[.int .i64 0, .int .i64 0, .slice none 0 0] 35)).alloc (.cells #[.int .i64 0, .int .i64 0] 46)) := ⟨_, rfl⟩
  have K1 : Aside (Keeps Nowhere w W1) := ⟨by rw [hW1]; exact (((Keeps.refl _ _).alloc _).alloc _).alloc _⟩
  have C0 : Aside (Cells W1 w.heap.size 35 [.int .i64 rt, .int .i64 rw, .slice (some ⟨g, o, none⟩) (N + 1) c]) := ⟨by rw [hW1]; exact (Cells.new w _ _).later (S := Nowhere) (((Keeps.refl _ _).alloc _).alloc _) (fun x => x)⟩
  have C1 : Aside (Cells W1 (w.heap.size + 1) 35 [.int .i64 0, .int .i64 0, .slice none 0 0]) := ⟨by
    have h := Cells.new (w.alloc (.cells #[.int .i64 rt, .int .i64 rw, .slice (some ⟨g, o, none⟩) (N + 1) c] 35)) 35 [.int .i64 0, .int .i64 0, .slice none 0 0]
    rw [World.size_alloc] at h
    rw [hW1]; exact h.later (S := Nowhere) ((Keeps.refl _ _).alloc _) (fun x => x)⟩
  have C2 : Aside (Cells W1 (w.heap.size + 2) 46 [.int .i64 0, .int .i64 0]) := ⟨by
    have h := Cells.new ((w.alloc (.cells #[.int .i64 rt, .int .i64 rw, .slice (some ⟨g, o, none⟩) (N + 1) c] 35)).alloc (.cells #[.int .i64 0, .int .i64 0, .slice none 0 0] 35)) 46 [.int .i64 0, .int .i64 0]
    rw [World.size_alloc, World.size_alloc] at h
    rw [hW1]; exact h⟩
  have SZ : Aside (W1.heap.size = w.heap.size + 1 + 1 + 1) := ⟨by rw [hW1]; simp⟩
  have d2 : W1.cell? ⟨w.heap.size, 2, none⟩ = some (.slice (some ⟨g, o, none⟩) (N + 1) c) := by rw [C0.it.cell]; rfl
  have p0 : W1.cell? ⟨g, o, none⟩ = some (.int .i64 x.1) := by rw [K1.it.bel.cell (World.block_lt_of_cell? w _ y0)]; exact y0
  have p1 : W1.cell? ⟨g, o + 1, none⟩ = some (.int .i64 x.2) := by rw [K1.it.bel.cell (World.block_lt_of_cell? w _ y1)]; exact y1
  clear y0 y1
  go_enter Tryd.func12, Tryd.ntmps12
  go_upto_region 1 with fail
  rw [← hW1]
  have HW1 : Aside _ := ⟨hW1⟩
  clear hW1
  go_upto_region 4 with fail
  obtain ⟨W2, hW2⟩ : ∃ W2, W2 = W1.alloc (.cells #[.int .i64 x.1, .int .i64 x.2] 46) := ⟨_, rfl⟩
  rw [← hW2]
  have K2 : Aside (Keeps Nowhere W1 W2) := ⟨by rw [hW2]; exact (Keeps.refl _ _).alloc _⟩
  have C3 : Aside (Cells W2 W1.heap.size 46 [.int .i64 x.1, .int .i64 x.2]) := ⟨by rw [hW2]; exact Cells.new W1 _ _⟩
  have d2' : W2.cell? ⟨w.heap.size, 2, none⟩ = some (.slice (some ⟨g, o, none⟩) (N + 1) c) := by rw [(C0.it.later K2.it (fun x => x)).cell]; rfl
  have HW2 : Aside _ := ⟨hW2⟩
  rw [SZ.it] at C3 ⊢
  clear hW2 d2 p0 p1
  have fin : ∀ (w3 : World) (s3 : Value), Aside (w3.ownsRow W2.heap.size 46 2 s3 N (flat l)) → Aside (Keeps Nowhere W2 w3) → ∃ g0 g1 g2, s3 = .slice g0 g1 g2 ∧
      Aside (Cells w3 w.heap.size 35 [.int .i64 rt, .int .i64 rw, .slice (some ⟨g, o, none⟩) (N + 1) c] ∧ Cells w3 (w.heap.size + 1) 35 [.int .i64 0, .int .i64 0, .slice none 0 0] ∧ Cells w3 (w.heap.size + 1 + 1) 46 [.int .i64 0, .int .i64 0] ∧ Cells w3 (w.heap.size + 1 + 1 + 1) 46 [.int .i64 x.1, .int .i64 x.2]) := by
    intro w3 s3 o3 k3
    obtain ⟨g0, g1, g2, h⟩ := owns_shapeK o3.it
    exact ⟨g0, g1, g2, h, ⟨(C0.it.later K2.it (fun x => x)).later k3.it (fun x => x), (C1.it.later K2.it (fun x => x)).later k3.it (fun x => x), (C2.it.later K2.it (fun x => x)).later k3.it (fun x => x), C3.it.later k3.it (fun x => x)⟩⟩
  have FIN : Aside _ := ⟨fin⟩
  clear fin
  have tail : ∀ (w3 : World) (g0 : Option Addr) (g1 g2 : Nat) (W : World), W = ((((((w3.setCell ⟨w.heap.size, 2, none⟩ (.slice g0 g1 g2)).setCell ⟨w.heap.size + 1, 0, none⟩ (.int .i64 rt)).setCell ⟨w.heap.size + 1, 1, none⟩ (.int .i64 rw)).setCell ⟨w.heap.size + 1, 2, none⟩ (.slice g0 g1 g2)).setCell ⟨w.heap.size + 1 + 1, 0, none⟩ (.int .i64 x.1)).setCell ⟨w.heap.size + 1 + 1, 1, none⟩ (.int .i64 x.2)).drew →
      Aside (w3.ownsRow W2.heap.size 46 2 (.slice g0 g1 g2) N (flat l)) → Aside (Keeps Nowhere W2 w3) → Cells w3 (w.heap.size + 1) 35 [.int .i64 0, .int .i64 0, .slice none 0 0] → Cells w3 (w.heap.size + 1 + 1) 46 [.int .i64 0, .int .i64 0] →
      Cells W (w.heap.size + 1) 35 [.int .i64 rt, .int .i64 rw, .slice g0 g1 g2] ∧ Cells W (w.heap.size + 1 + 1) 46 [.int .i64 x.1, .int .i64 x.2] ∧
        (ReadsK 2 W (.slice g0 g1 g2) l.length (flat l) ∧ (∀ k, (Value.slice g0 g1 g2).ownBlock = some k → w.heap.size ≤ k) ∧ Keeps Nowhere w W) ∧ (∀ k, (Value.slice g0 g1 g2).ownBlock = some k → k < W.heap.size) := by
    intro w3 g0 g1 g2 W hW o3 k3 t1 t2
    have hsz : w.heap.size + 1 + 1 + 1 ≤ W2.heap.size := by rw [← SZ.it]; exact K2.it.size
    have kk : Keeps (fun k => k = w.heap.size ∨ k = w.heap.size + 1 ∨ k = w.heap.size + 1 + 1) w3 W := by
      rw [hW]
      exact ((((((((Keeps.refl _ w3).setCell ⟨w.heap.size, 2, none⟩ _ (fun _ => .inl rfl)).setCell ⟨w.heap.size + 1, 0, none⟩ _ (fun _ => .inr (.inl rfl))).setCell ⟨w.heap.size + 1, 1, none⟩ _ (fun _ => .inr (.inl rfl))).setCell ⟨w.heap.size + 1, 2, none⟩ _ (fun _ => .inr (.inl rfl))).setCell ⟨w.heap.size + 1 + 1, 0, none⟩ _ (fun _ => .inr (.inr rfl))).setCell ⟨w.heap.size + 1 + 1, 1, none⟩ _ (fun _ => .inr (.inr rfl))).drew)
    refine ⟨?_, ?_, ⟨?_, ?_, ?_⟩, fun k hk => Nat.lt_of_lt_of_le (owns_lt o3.it k hk) kk.size⟩
    · rw [hW]
      have h1 := t1.setOther ⟨w.heap.size, 2, none⟩ (.slice g0 g1 g2) (show w.heap.size + 1 ≠ w.heap.size by omega)
      have h2 := ((h1.setCell 0 (.int .i64 rt)).setCell 1 (.int .i64 rw)).setCell 2 (.slice g0 g1 g2)
      have h3 := h2.setOther ⟨w.heap.size + 1 + 1, 0, none⟩ (.int .i64 x.1) (show w.heap.size + 1 ≠ w.heap.size + 1 + 1 by omega)
      exact (h3.setOther ⟨w.heap.size + 1 + 1, 1, none⟩ (.int .i64 x.2) (show w.heap.size + 1 ≠ w.heap.size + 1 + 1 by omega)).drew
    · rw [hW]
      have h1 := t2.setOther ⟨w.heap.size, 2, none⟩ (.slice g0 g1 g2) (show w.heap.size + 1 + 1 ≠ w.heap.size by omega)
      have h2 := h1.setOther ⟨w.heap.size + 1, 0, none⟩ (.int .i64 rt) (show w.heap.size + 1 + 1 ≠ w.heap.size + 1 by omega)
      have h3 := h2.setOther ⟨w.heap.size + 1, 1, none⟩ (.int .i64 rw) (show w.heap.size + 1 + 1 ≠ w.heap.size + 1 by omega)
      have h4 := h3.setOther ⟨w.heap.size + 1, 2, none⟩ (.slice g0 g1 g2) (show w.heap.size + 1 + 1 ≠ w.heap.size + 1 by omega)
      exact ((h4.setCell 0 (.int .i64 x.1)).setCell 1 (.int .i64 x.2)).drew
    · have h := owns_readsK (owns_later o3.it kk (fun b hb e => by have := owns_base o3.it b hb; omega))
      rw [HN.it] at h
      exact h
    · intro k hk
      have := owns_base o3.it k hk
      omega
    · exact ((K1.it.trans K2.it).trans k3.it).next kk (fun b hb hlt => by omega)
  have TAIL : Aside _ := ⟨tail⟩
  clear tail
  by_cases hc1 : c = 1
  · subst hc1
    rw [if_pos rfl] at CP
    obtain rfl : N = 0 := by omega
    rw [show (1 - 1 : Nat) = 0 from rfl] at CP
    go_wp2_with fail
    refine (CP.it W2 (K1.it.trans K2.it)).mono ?_
    rintro e w3 ⟨s3, rfl, o3, k3⟩
    obtain ⟨g0, g1, g2, rfl, CS⟩ := FIN.it w3 s3 o3 k3
    obtain ⟨t0, t1, t2, t3⟩ := CS.it
    have u2 : w3.cell? ⟨w.heap.size, 2, none⟩ = some (.slice (some ⟨g, o, none⟩) (0 + 1) 1) := by rw [t0.cell]; rfl
    have u0 : w3.cell? ⟨w.heap.size, 0, none⟩ = some (.int .i64 rt) := by rw [t0.cell]; rfl
    have u1 : w3.cell? ⟨w.heap.size, 1, none⟩ = some (.int .i64 rw) := by rw [t0.cell]; rfl
    have v0 : w3.cell? ⟨w.heap.size + 1, 0, none⟩ = some (.int .i64 0) := by rw [t1.cell]; rfl
    have v1 : w3.cell? ⟨w.heap.size + 1, 1, none⟩ = some (.int .i64 0) := by rw [t1.cell]; rfl
    have v2 : w3.cell? ⟨w.heap.size + 1, 2, none⟩ = some (.slice none 0 0) := by rw [t1.cell]; rfl
    have x0 : w3.cell? ⟨w.heap.size + 1 + 1, 0, none⟩ = some (.int .i64 0) := by rw [t2.cell]; rfl
    have x1 : w3.cell? ⟨w.heap.size + 1 + 1, 1, none⟩ = some (.int .i64 0) := by rw [t2.cell]; rfl
    have z0 : w3.cell? ⟨w.heap.size + 1 + 1 + 1, 0, none⟩ = some (.int .i64 x.1) := by rw [t3.cell]; rfl
    have z1 : w3.cell? ⟨w.heap.size + 1 + 1 + 1, 1, none⟩ = some (.int .i64 x.2) := by rw [t3.cell]; rfl
    have q2 := t0.frozen 2
    have r0 := t1.frozen 0
    have r1 := t1.frozen 1
    have r2 := t1.frozen 2
    have s0 := t2.frozen 0
    have s1 := t2.frozen 1
    clear t0 t1 t2 t3 d2'
    go_wp2_with fail
    go_region
    go_wp2
    obtain ⟨W, hW⟩ : ∃ W, W = ((((((w3.setCell ⟨w.heap.size, 2, none⟩ (.slice g0 g1 g2)).setCell ⟨w.heap.size + 1, 0, none⟩ (.int .i64 rt)).setCell ⟨w.heap.size + 1, 1, none⟩ (.int .i64 rw)).setCell ⟨w.heap.size + 1, 2, none⟩ (.slice g0 g1 g2)).setCell ⟨w.heap.size + 1 + 1, 0, none⟩ (.int .i64 x.1)).setCell ⟨w.heap.size + 1 + 1, 1, none⟩ (.int .i64 x.2)).drew := ⟨_, rfl⟩
    rw [← hW]
    obtain ⟨hC, hD, hR, hL⟩ := TAIL.it w3 _ _ _ W hW o3 k3 CS.it.2.1 CS.it.2.2.1
    have a0 : W.cell? ⟨w.heap.size + 1, 0, none⟩ = some (.int .i64 rt) := by rw [hC.cell]; rfl
    have a1 : W.cell? ⟨w.heap.size + 1, 1, none⟩ = some (.int .i64 rw) := by rw [hC.cell]; rfl
    have a2 : W.cell? ⟨w.heap.size + 1, 2, none⟩ = some (.slice g0 g1 g2) := by rw [hC.cell]; rfl
    have a3 : W.cell? ⟨w.heap.size + 1 + 1, 0, none⟩ = some (.int .i64 x.1) := by rw [hD.cell]; rfl
    have a4 : W.cell? ⟨w.heap.size + 1 + 1, 1, none⟩ = some (.int .i64 x.2) := by rw [hD.cell]; rfl
    refine bodyPost_ret (v := .tuple #[.agg #[.int .i64 rt, .int .i64 rw, .slice g0 g1 g2], .agg #[.int .i64 x.1, .int .i64 x.2], .bool true]) (by simp [results, Tryd.results12, go_sem, a0, a1, a2, a3, a4]) rfl ?_
    exact ⟨_, rfl, ⟨hR.1, fun k hk => .inr (hR.2.1 k hk), hR.2.2, hL⟩⟩
  · rw [if_neg hc1] at CP
    go_wp2_with fail
    refine (CP.it W2 (K1.it.trans K2.it)).mono ?_
    rintro e w3 ⟨s3, rfl, o3, k3⟩
    obtain ⟨g0, g1, g2, rfl, CS⟩ := FIN.it w3 s3 o3 k3
    obtain ⟨t0, t1, t2, t3⟩ := CS.it
    have u2 : w3.cell? ⟨w.heap.size, 2, none⟩ = some (.slice (some ⟨g, o, none⟩) (N + 1) c) := by rw [t0.cell]; rfl
    have u0 : w3.cell? ⟨w.heap.size, 0, none⟩ = some (.int .i64 rt) := by rw [t0.cell]; rfl
    have u1 : w3.cell? ⟨w.heap.size, 1, none⟩ = some (.int .i64 rw) := by rw [t0.cell]; rfl
    have v0 : w3.cell? ⟨w.heap.size + 1, 0, none⟩ = some (.int .i64 0) := by rw [t1.cell]; rfl
    have v1 : w3.cell? ⟨w.heap.size + 1, 1, none⟩ = some (.int .i64 0) := by rw [t1.cell]; rfl
    have v2 : w3.cell? ⟨w.heap.size + 1, 2, none⟩ = some (.slice none 0 0) := by rw [t1.cell]; rfl
    have x0 : w3.cell? ⟨w.heap.size + 1 + 1, 0, none⟩ = some (.int .i64 0) := by rw [t2.cell]; rfl
    have x1 : w3.cell? ⟨w.heap.size + 1 + 1, 1, none⟩ = some (.int .i64 0) := by rw [t2.cell]; rfl
    have z0 : w3.cell? ⟨w.heap.size + 1 + 1 + 1, 0, none⟩ = some (.int .i64 x.1) := by rw [t3.cell]; rfl
    have z1 : w3.cell? ⟨w.heap.size + 1 + 1 + 1, 1, none⟩ = some (.int .i64 x.2) := by rw [t3.cell]; rfl
    have q2 := t0.frozen 2
    have r0 := t1.frozen 0
    have r1 := t1.frozen 1
    have r2 := t1.frozen 2
    have s0 := t2.frozen 0
    have s1 := t2.frozen 1
    clear t0 t1 t2 t3 d2'
    go_wp2_with fail
    go_region
    go_wp2
    obtain ⟨W, hW⟩ : ∃ W, W = ((((((w3.setCell ⟨w.heap.size, 2, none⟩ (.slice g0 g1 g2)).setCell ⟨w.heap.size + 1, 0, none⟩ (.int .i64 rt)).setCell ⟨w.heap.size + 1, 1, none⟩ (.int .i64 rw)).setCell ⟨w.heap.size + 1, 2, none⟩ (.slice g0 g1 g2)).setCell ⟨w.heap.size + 1 + 1, 0, none⟩ (.int .i64 x.1)).setCell ⟨w.heap.size + 1 + 1, 1, none⟩ (.int .i64 x.2)).drew := ⟨_, rfl⟩
    rw [← hW]
    obtain ⟨hC, hD, hR, hL⟩ := TAIL.it w3 _ _ _ W hW o3 k3 CS.it.2.1 CS.it.2.2.1
    have a0 : W.cell? ⟨w.heap.size + 1, 0, none⟩ = some (.int .i64 rt) := by rw [hC.cell]; rfl
    have a1 : W.cell? ⟨w.heap.size + 1, 1, none⟩ = some (.int .i64 rw) := by rw [hC.cell]; rfl
    have a2 : W.cell? ⟨w.heap.size + 1, 2, none⟩ = some (.slice g0 g1 g2) := by rw [hC.cell]; rfl
    have a3 : W.cell? ⟨w.heap.size + 1 + 1, 0, none⟩ = some (.int .i64 x.1) := by rw [hD.cell]; rfl
    have a4 : W.cell? ⟨w.heap.size + 1 + 1, 1, none⟩ = some (.int .i64 x.2) := by rw [hD.cell]; rfl
    refine bodyPost_ret (v := .tuple #[.agg #[.int .i64 rt, .int .i64 rw, .slice g0 g1 g2], .agg #[.int .i64 x.1, .int .i64 x.2], .bool true]) (by simp [results, Tryd.results12, go_sem, a0, a1, a2, a3, a4]) rfl ?_
    exact ⟨_, rfl, ⟨hR.1, fun k hk => .inr (hR.2.1 k hk), hR.2.2, hL⟩⟩
end Go.Proofs.YtnljgklmaljfjaaDoor
