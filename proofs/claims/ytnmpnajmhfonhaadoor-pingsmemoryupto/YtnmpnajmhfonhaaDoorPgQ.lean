/-
  the document's pings: Ask, Asked, Replied, Heard
-/
import Derived.Test.YtnmpnajmhfonhaaDoorPgR
namespace Go.Proofs.YtnmpnajmhfonhaaDoor
open Go.RowKit
attribute [-go_sem] Builtin.append_

variable {w w' W : World} {own own' : Nat → Nat} {v vw va vo : Value} {L : List Nat} {I : Nat → Prop} {m : Pm} {bx : Nat} {v0 v1 v2 v3 v4 : Value}

/-- the two boxes of a call of the document's: its argument, its answer -/
structure Dz (w : World) (W : World) (bx : Nat) (cs : List Value) : Prop where
  k : Keeps Nowhere w W
  c1 : Cells W bx 34 cs
  c2 : Cells W (bx + 1) 34 [.int .i64 0, .int .i64 0, .slice none 0 0, .slice none 0 0, .slice none 0 0]
  b : w.heap.size = bx
theorem Dz.start (w : World) (v0 v1 v2 v3 v4 : Value) : Dz w ((w.alloc (.cells #[v0, v1, v2, v3, v4] 34)).alloc (.cells #[.int .i64 0, .int .i64 0, .slice none 0 0, .slice none 0 0, .slice none 0 0] 34)) w.heap.size [v0, v1, v2, v3, v4] := by
  refine ⟨((Keeps.refl _ _).alloc _).alloc _, (Cells.new w _ _).later (S := Nowhere) ((Keeps.refl _ _).alloc _) (fun x => x), ?_, rfl⟩
  have h := Cells.new (w.alloc (.cells #[v0, v1, v2, v3, v4] 34)) 34 [.int .i64 0, .int .i64 0, .slice none 0 0, .slice none 0 0, .slice none 0 0]
  rw [World.size_alloc] at h
  exact h
theorem Dz.quiet {cs : List Value} (h : Dz w W bx cs) (hk : Keeps Nowhere W w') : Dz w w' bx cs := ⟨h.k.trans hk, h.c1.later hk (fun x => x), h.c2.later hk (fun x => x), h.b⟩
theorem Dz.put {cs : List Value} (h : Dz w W bx cs) (j : Nat) (v : Value) : Dz w (W.setCell ⟨bx, j, none⟩ v) bx (cs.set j v) :=
  ⟨h.k.next (S' := fun k => k = bx) ((Keeps.refl _ _).setCell _ _ (fun _ => rfl)) (fun k e hlt => by have := h.b; omega), h.c1.setCell j v, h.c2.setOther _ _ (by simp), h.b⟩
theorem Dz.cells (h : Dz w W bx [v0, v1, v2, v3, v4]) : W.cell? ⟨bx, 0, none⟩ = some v0 ∧ W.cell? ⟨bx, 1, none⟩ = some v1 ∧ W.cell? ⟨bx, 2, none⟩ = some v2 ∧ W.cell? ⟨bx, 3, none⟩ = some v3 ∧ W.cell? ⟨bx, 4, none⟩ = some v4 ∧ (∀ j, W.frozen? ⟨bx, j, none⟩ = false) :=
  ⟨by rw [h.c1.cell]; rfl, by rw [h.c1.cell]; rfl, by rw [h.c1.cell]; rfl, by rw [h.c1.cell]; rfl, by rw [h.c1.cell]; rfl, fun j => h.c1.frozen j⟩
theorem Dz.res {cs : List Value} (h : Dz w W bx cs) : W.cell? ⟨bx + 1, 0, none⟩ = some (.int .i64 0) ∧ W.cell? ⟨bx + 1, 1, none⟩ = some (.int .i64 0) ∧ W.cell? ⟨bx + 1, 2, none⟩ = some (.slice none 0 0) ∧ W.cell? ⟨bx + 1, 3, none⟩ = some (.slice none 0 0) ∧ W.cell? ⟨bx + 1, 4, none⟩ = some (.slice none 0 0) ∧ (∀ j, W.frozen? ⟨bx + 1, j, none⟩ = false) :=
  ⟨by rw [h.c2.cell]; rfl, by rw [h.c2.cell]; rfl, by rw [h.c2.cell]; rfl, by rw [h.c2.cell]; rfl, by rw [h.c2.cell]; rfl, fun j => h.c2.frozen j⟩
/-- a struct of five is stored -/
def set5 (W : World) (b : Nat) (v0 v1 v2 v3 v4 : Value) : World := ((((W.setCell ⟨b, 0, none⟩ v0).setCell ⟨b, 1, none⟩ v1).setCell ⟨b, 2, none⟩ v2).setCell ⟨b, 3, none⟩ v3).setCell ⟨b, 4, none⟩ v4
theorem keeps5 (W : World) (b : Nat) (v0 v1 v2 v3 v4 : Value) : Keeps (fun k => k = b) W (set5 W b v0 v1 v2 v3 v4) := by
  have h0 : Keeps (fun k => k = b) W (W.setCell ⟨b, 0, none⟩ v0) := (Keeps.refl _ _).setCell _ _ (fun _ => rfl)
  have h1 := h0.setCell ⟨b, 1, none⟩ v1 (fun _ => rfl)
  have h2 := h1.setCell ⟨b, 2, none⟩ v2 (fun _ => rfl)
  have h3 := h2.setCell ⟨b, 3, none⟩ v3 (fun _ => rfl)
  exact h3.setCell ⟨b, 4, none⟩ v4 (fun _ => rfl)
theorem cells5 {b : Nat} {e : TypeId} {r0 r1 r2 r3 r4 : Value} (h : Cells W b e [r0, r1, r2, r3, r4]) (v0 v1 v2 v3 v4 : Value) : Cells (set5 W b v0 v1 v2 v3 v4) b e [v0, v1, v2, v3, v4] :=
  ((((h.setCell 0 v0).setCell 1 v1).setCell 2 v2).setCell 3 v3).setCell 4 v4
theorem Dz.fin {cs : List Value} (h : Dz w W bx cs) (v0 v1 v2 v3 v4 : Value) : ((set5 W (bx + 1) v0 v1 v2 v3 v4).cell? ⟨bx + 1, 0, none⟩ = some v0 ∧ (set5 W (bx + 1) v0 v1 v2 v3 v4).cell? ⟨bx + 1, 1, none⟩ = some v1 ∧ (set5 W (bx + 1) v0 v1 v2 v3 v4).cell? ⟨bx + 1, 2, none⟩ = some v2 ∧ (set5 W (bx + 1) v0 v1 v2 v3 v4).cell? ⟨bx + 1, 3, none⟩ = some v3 ∧ (set5 W (bx + 1) v0 v1 v2 v3 v4).cell? ⟨bx + 1, 4, none⟩ = some v4) ∧ Aside (Keeps Nowhere w (set5 W (bx + 1) v0 v1 v2 v3 v4)) := by
  have x := cells5 h.c2 v0 v1 v2 v3 v4
  exact ⟨⟨x.cell 0, x.cell 1, x.cell 2, x.cell 3, x.cell 4⟩, ⟨h.k.next (keeps5 W (bx + 1) v0 v1 v2 v3 v4) (fun k e hlt => by have := h.b; omega)⟩⟩

/-- a list that was made within the call -/
theorem Dz.row {cs : List Value} {w2 V : World} (h : Dz w W bx cs) (R : w2.ownsRow W.heap.size 37 1 v L.length (L.map e32)) (k : Keeps (fun k => k = bx ∨ k = bx + 1) w2 V) : RdN (give own w.heap.size 9) V v L := by
  have hlt := h.c2.lt
  have hb := h.b
  exact owns_rdN (owns_later R k (fun b hb' e => by have := owns_base R b hb'; omega)) (by omega)
theorem filter_out {l : List Nat} (hn : l.Nodup) {j t : Nat} (hj : l[j]? = some t) : l.filter (fun x => x != t) = l.take j ++ l.drop (j + 1) := by
  induction l generalizing j with
  | nil => simp at hj
  | cons x l ih =>
    rw [List.nodup_cons] at hn
    cases j with
    | zero =>
      simp only [List.getElem?_cons_zero, Option.some.injEq] at hj
      subst hj
      rw [List.filter_cons_of_neg (by simp)]
      simp only [List.take_zero, List.nil_append, List.drop_succ_cons, List.drop_zero]
      rw [List.filter_eq_self]
      intro y hy
      simp only [bne_iff_ne, ne_eq]
      exact fun e => hn.1 (e ▸ hy)
    | succ j =>
      simp only [List.getElem?_cons_succ] at hj
      have hx : x ≠ t := fun e => hn.1 (e ▸ List.mem_of_getElem? hj)
      rw [List.filter_cons_of_pos (by simpa using hx), ih hn.2 hj]
      rfl
theorem ks_tdel_at {L : Tl Unit} (hu : Up L) {j t : Nat} (hj : (ks L)[j]? = some t) : ks (tdel L t) = (ks L).take j ++ (ks L).drop (j + 1) := by
  rw [ks_tdel]
  exact filter_out (ks_nodup hu) hj
--GEN
set_option maxRecDepth 8000 in
set_option maxHeartbeats 1000000 in
theorem dasked (h : Dm own w vw va vo m) (hok : m.Ok) (t : Nat) : Calls Tryd.prog 30 #[.agg #[.int .i64 m.most, .int .i64 m.last, vw, va, vo], .int .u32 (t : Nat)] w fun e w' => ∃ b1 l1 d1 b2 l2 d2 b3 l3 d3, e = .returned (.tuple #[.agg #[.int .i64 (m.asked t).most, .int .i64 (m.asked t).last, .slice b1 l1 d1, .slice b2 l2 d2, .slice b3 l3 d3], .int .i64 m.askedC]) ∧ Aside (Dm (give own w.heap.size 9) w' (.slice b1 l1 d1) (.slice b2 l2 d2) (.slice b3 l3 d3) (m.asked t)) ∧ Aside (Keeps Nowhere w w') := by
  rw [Pm.most_asked, Pm.last_asked]
  have X := Aside.mk (Dz.start w (.int .i64 m.most) (.int .i64 m.last) vw va vo); obtain ⟨a1, c1, rfl, hl1, hm1⟩ := h.wt.shape; obtain ⟨a2, c2, rfl, hl2, hm2⟩ := h.a.shape; obtain ⟨a3, c3, rfl, hl3, hm3⟩ := h.o.shape; have H := Aside.mk h; rw [len_ks] at X hl1 H ⊢; obtain ⟨bx, hbx⟩ : ∃ bx, w.heap.size = bx := ⟨_, rfl⟩; obtain ⟨n1, hn1⟩ : ∃ n, m.L.length = n := ⟨_, rfl⟩; obtain ⟨n2, hn2⟩ : ∃ n, m.an.length = n := ⟨_, rfl⟩; obtain ⟨n3, hn3⟩ : ∃ n, m.ow.length = n := ⟨_, rfl⟩; have HN := Aside.mk (And.intro hn1 (And.intro hn2 hn3)); rw [hn1] at X hl1 H ⊢; rw [hn2] at X hl2 H ⊢; rw [hn3] at X hl3 H ⊢; obtain ⟨W1, hW1⟩ : ∃ W1, ((w.alloc (.cells #[.int .i64 m.most, .int .i64 m.last, .slice a1 n1 c1, .slice a2 n2 c2, .slice a3 n3 c3] 34)).alloc (.cells #[.int .i64 0, .int .i64 0, .slice none 0 0, .slice none 0 0, .slice none 0 0] 34)) = W1 := ⟨_, rfl⟩; rw [hW1] at X; have HB := Aside.mk hbx; rw [hbx] at X; obtain ⟨k0, k1, k2, k3, k4, kf⟩ := X.it.cells; obtain ⟨r0, r1, r2, r3, r4, rf⟩ := X.it.res; have HO := Aside.mk hok; clear hn1 hn2 hn3 h hok
  unfold Pm.askedC
  by_cases h0 : m.most = 0
  · rw [if_pos h0]
    have ea : m.asked t = m := by unfold Pm.asked; rw [if_pos (by omega)]
    rw [ea]
    have e0 : ((m.most : Int) == 0) = true := by rw [h0]; rfl
    clear h0 ea
    go_enter Tryd.func30, Tryd.ntmps30
    go_upto_region 1 with fail
    clear hW1 hbx
    go_wp2_with fail
    obtain ⟨⟨y0, y1, y2, y3, y4⟩, KF⟩ := X.it.fin (.int .i64 m.most) (.int .i64 m.last) (.slice a1 n1 c1) (.slice a2 n2 c2) (.slice a3 n3 c3)
    have K5 := Aside.mk (keeps5 W1 (bx + 1) (.int .i64 m.most) (.int .i64 m.last) (.slice a1 n1 c1) (.slice a2 n2 c2) (.slice a3 n3 c3))
    unfold set5 at y0 y1 y2 y3 y4 KF K5
    generalize (((((W1.setCell ⟨bx + 1, 0, none⟩ (.int .i64 m.most)).setCell ⟨bx + 1, 1, none⟩ (.int .i64 m.last)).setCell ⟨bx + 1, 2, none⟩ (.slice a1 n1 c1)).setCell ⟨bx + 1, 3, none⟩ (.slice a2 n2 c2)).setCell ⟨bx + 1, 4, none⟩ (.slice a3 n3 c3)) = V at y0 y1 y2 y3 y4 KF K5 ⊢
    refine bodyPost_ret (v := .tuple #[.agg #[.int .i64 m.most, .int .i64 m.last, .slice a1 n1 c1, .slice a2 n2 c2, .slice a3 n3 c3], .int .i64 1]) (by simp [results, Tryd.f30, go_sem, y0, y1, y2, y3, y4]) rfl ?_
    exact ⟨_, _, _, _, _, _, _, _, _, rfl, ⟨H.it.step KF.it 9⟩, KF⟩
  · rw [if_neg h0]
    have e0 : ((m.most : Int) == 0) = false := beq_eq_false_iff_ne.2 (by omega)
    by_cases hx : m.most ≤ m.ow.length
    · rw [if_pos hx]
      have ea : m.asked t = m := by unfold Pm.asked; rw [if_pos hx]
      rw [ea]
      have e1 : decide (m.most ≤ n3) = true := decide_eq_true (by rw [← HN.it.2.2]; exact hx)
      clear h0 ea hx
      go_enter Tryd.func30, Tryd.ntmps30
      go_upto_region 1 with fail
      clear hW1 hbx
      go_wp2_with fail
      obtain ⟨⟨y0, y1, y2, y3, y4⟩, KF⟩ := X.it.fin (.int .i64 m.most) (.int .i64 m.last) (.slice a1 n1 c1) (.slice a2 n2 c2) (.slice a3 n3 c3)
      have K5 := Aside.mk (keeps5 W1 (bx + 1) (.int .i64 m.most) (.int .i64 m.last) (.slice a1 n1 c1) (.slice a2 n2 c2) (.slice a3 n3 c3))
      unfold set5 at y0 y1 y2 y3 y4 KF K5
      generalize (((((W1.setCell ⟨bx + 1, 0, none⟩ (.int .i64 m.most)).setCell ⟨bx + 1, 1, none⟩ (.int .i64 m.last)).setCell ⟨bx + 1, 2, none⟩ (.slice a1 n1 c1)).setCell ⟨bx + 1, 3, none⟩ (.slice a2 n2 c2)).setCell ⟨bx + 1, 4, none⟩ (.slice a3 n3 c3)) = V at y0 y1 y2 y3 y4 KF K5 ⊢
      refine bodyPost_ret (v := .tuple #[.agg #[.int .i64 m.most, .int .i64 m.last, .slice a1 n1 c1, .slice a2 n2 c2, .slice a3 n3 c3], .int .i64 21]) (by simp [results, Tryd.f30, go_sem, y0, y1, y2, y3, y4]) rfl ?_
      exact ⟨_, _, _, _, _, _, _, _, _, rfl, ⟨H.it.step KF.it 9⟩, KF⟩
    · rw [if_neg hx]
      have ea : m.asked t = { m with ow := m.ow ++ [t] } := by unfold Pm.asked; rw [if_neg hx]
      rw [ea]
      have e1 : decide (m.most ≤ n3) = false := decide_eq_false (by rw [← HN.it.2.2]; exact hx)
      have BH := Aside.mk (dbehind (L := m.ow) (H.it.quiet X.it.k).o.r t (by have := HO.it.ol; have := HO.it.top; omega))
      clear h0 ea hx
      go_enter Tryd.func30, Tryd.ntmps30
      go_upto_region 1 with fail
      clear hW1 hbx
      go_upto_region 6 with (first | (go_at_call 40; refine BH.it.mono ?_; clear BH; rintro e w2 ⟨ba, bl, bc, rfl, R2, K2⟩; obtain ⟨k0', k1', k2', k3', k4', kf'⟩ := (X.it.quiet K2.it).cells) | fail)
      have X3 := Aside.mk ((X.it.quiet K2.it).put 4 (.slice ba bl bc))
      simp only [List.set_cons_succ, List.set_cons_zero] at X3
      have KS : Aside (Keeps (fun k => k = bx) w2 (w2.setCell ⟨bx, 4, none⟩ (.slice ba bl bc))) := ⟨(Keeps.refl _ _).setCell _ _ (fun _ => rfl)⟩
      clear k0 k1 k2 k3 k4 kf r0 r1 r2 r3 r4 rf k0' k1' k2' k3' k4' kf'
      generalize w2.setCell ⟨bx, 4, none⟩ (.slice ba bl bc) = W3 at X3 KS ⊢
      obtain ⟨k0, k1, k2, k3, k4, kf⟩ := X3.it.cells
      obtain ⟨r0, r1, r2, r3, r4, rf⟩ := X3.it.res
      go_wp2_with fail
      obtain ⟨⟨y0, y1, y2, y3, y4⟩, KF⟩ := X3.it.fin (.int .i64 m.most) (.int .i64 m.last) (.slice a1 n1 c1) (.slice a2 n2 c2) (.slice ba bl bc)
      have K5 := Aside.mk (keeps5 W3 (bx + 1) (.int .i64 m.most) (.int .i64 m.last) (.slice a1 n1 c1) (.slice a2 n2 c2) (.slice ba bl bc))
      unfold set5 at y0 y1 y2 y3 y4 KF K5
      generalize (((((W3.setCell ⟨bx + 1, 0, none⟩ (.int .i64 m.most)).setCell ⟨bx + 1, 1, none⟩ (.int .i64 m.last)).setCell ⟨bx + 1, 2, none⟩ (.slice a1 n1 c1)).setCell ⟨bx + 1, 3, none⟩ (.slice a2 n2 c2)).setCell ⟨bx + 1, 4, none⟩ (.slice ba bl bc)) = V at y0 y1 y2 y3 y4 KF K5 ⊢
      refine bodyPost_ret (v := .tuple #[.agg #[.int .i64 m.most, .int .i64 m.last, .slice a1 n1 c1, .slice a2 n2 c2, .slice ba bl bc], .int .i64 0]) (by simp [results, Tryd.f30, go_sem, y0, y1, y2, y3, y4]) rfl ?_
      exact ⟨_, _, _, _, _, _, _, _, _, rfl, ⟨⟨(H.it.step KF.it 9).wt, (H.it.step KF.it 9).a, X.it.row R2.it ((KS.it.mono (fun _ e _ => .inl e)).trans (K5.it.mono (fun _ e _ => .inr e)))⟩⟩, KF⟩
set_option maxRecDepth 8000 in
set_option maxHeartbeats 1000000 in
theorem dask (h : Dm own w vw va vo m) (hok : m.Ok) (hf : m.Fr) (hb : m.last < 4294967295) : Calls Tryd.prog 28 #[.agg #[.int .i64 m.most, .int .i64 m.last, vw, va, vo]] w fun e w' => ∃ b1 l1 d1 b2 l2 d2 b3 l3 d3, e = .returned (.tuple #[.agg #[.int .i64 m.ask.most, .int .i64 m.ask.last, .slice b1 l1 d1, .slice b2 l2 d2, .slice b3 l3 d3], .int .u32 (m.askT : Nat), .int .i64 m.askC]) ∧ Aside (Dm (give own w.heap.size 9) w' (.slice b1 l1 d1) (.slice b2 l2 d2) (.slice b3 l3 d3) m.ask) ∧ Aside (Keeps Nowhere w w') := by
  rw [Pm.most_ask]
  have X := Aside.mk (Dz.start w (.int .i64 m.most) (.int .i64 m.last) vw va vo); obtain ⟨a1, c1, rfl, hl1, hm1⟩ := h.wt.shape; obtain ⟨a2, c2, rfl, hl2, hm2⟩ := h.a.shape; obtain ⟨a3, c3, rfl, hl3, hm3⟩ := h.o.shape; have H := Aside.mk h; rw [len_ks] at X hl1 H ⊢; obtain ⟨bx, hbx⟩ : ∃ bx, w.heap.size = bx := ⟨_, rfl⟩; obtain ⟨n1, hn1⟩ : ∃ n, m.L.length = n := ⟨_, rfl⟩; obtain ⟨n2, hn2⟩ : ∃ n, m.an.length = n := ⟨_, rfl⟩; obtain ⟨n3, hn3⟩ : ∃ n, m.ow.length = n := ⟨_, rfl⟩; have HN := Aside.mk (And.intro hn1 (And.intro hn2 hn3)); rw [hn1] at X hl1 H ⊢; rw [hn2] at X hl2 H ⊢; rw [hn3] at X hl3 H ⊢; obtain ⟨W1, hW1⟩ : ∃ W1, ((w.alloc (.cells #[.int .i64 m.most, .int .i64 m.last, .slice a1 n1 c1, .slice a2 n2 c2, .slice a3 n3 c3] 34)).alloc (.cells #[.int .i64 0, .int .i64 0, .slice none 0 0, .slice none 0 0, .slice none 0 0] 34)) = W1 := ⟨_, rfl⟩; rw [hW1] at X; have HB := Aside.mk hbx; rw [hbx] at X; obtain ⟨k0, k1, k2, k3, k4, kf⟩ := X.it.cells; obtain ⟨r0, r1, r2, r3, r4, rf⟩ := X.it.res; have HO := Aside.mk hok; clear hn1 hn2 hn3 h hok
  have HF := Aside.mk hf
  unfold Pm.askC Pm.askT
  clear hf
  by_cases h0 : m.most = 0
  · have hx : m.most ≤ m.L.length := by omega
    have ea : m.ask = m := by unfold Pm.ask; rw [if_pos hx]
    rw [if_pos h0, if_pos hx, ea]
    have e0 : ((m.most : Int) == 0) = true := by rw [h0]; rfl
    clear h0 ea hx hb
    go_enter Tryd.func28, Tryd.ntmps28
    go_upto_region 1 with fail
    clear hW1 hbx
    go_wp2_with fail
    obtain ⟨⟨y0, y1, y2, y3, y4⟩, KF⟩ := X.it.fin (.int .i64 m.most) (.int .i64 m.last) (.slice a1 n1 c1) (.slice a2 n2 c2) (.slice a3 n3 c3)
    have K5 := Aside.mk (keeps5 W1 (bx + 1) (.int .i64 m.most) (.int .i64 m.last) (.slice a1 n1 c1) (.slice a2 n2 c2) (.slice a3 n3 c3))
    unfold set5 at y0 y1 y2 y3 y4 KF K5
    generalize (((((W1.setCell ⟨bx + 1, 0, none⟩ (.int .i64 m.most)).setCell ⟨bx + 1, 1, none⟩ (.int .i64 m.last)).setCell ⟨bx + 1, 2, none⟩ (.slice a1 n1 c1)).setCell ⟨bx + 1, 3, none⟩ (.slice a2 n2 c2)).setCell ⟨bx + 1, 4, none⟩ (.slice a3 n3 c3)) = V at y0 y1 y2 y3 y4 KF K5 ⊢
    refine bodyPost_ret (v := .tuple #[.agg #[.int .i64 m.most, .int .i64 m.last, .slice a1 n1 c1, .slice a2 n2 c2, .slice a3 n3 c3], .int .u32 0, .int .i64 1]) (by simp [results, Tryd.f28, go_sem, y0, y1, y2, y3, y4]) rfl ?_
    exact ⟨_, _, _, _, _, _, _, _, _, rfl, ⟨H.it.step KF.it 9⟩, KF⟩
  · rw [if_neg h0]
    have e0 : ((m.most : Int) == 0) = false := beq_eq_false_iff_ne.2 (by omega)
    by_cases hx : m.most ≤ m.L.length
    · have ea : m.ask = m := by unfold Pm.ask; rw [if_pos hx]
      rw [if_pos hx, if_pos hx, ea]
      have e1 : decide (m.most ≤ n1) = true := decide_eq_true (by rw [← HN.it.1]; exact hx)
      clear h0 ea hx hb
      go_enter Tryd.func28, Tryd.ntmps28
      go_upto_region 1 with fail
      clear hW1 hbx
      go_wp2_with fail
      obtain ⟨⟨y0, y1, y2, y3, y4⟩, KF⟩ := X.it.fin (.int .i64 m.most) (.int .i64 m.last) (.slice a1 n1 c1) (.slice a2 n2 c2) (.slice a3 n3 c3)
      have K5 := Aside.mk (keeps5 W1 (bx + 1) (.int .i64 m.most) (.int .i64 m.last) (.slice a1 n1 c1) (.slice a2 n2 c2) (.slice a3 n3 c3))
      unfold set5 at y0 y1 y2 y3 y4 KF K5
      generalize (((((W1.setCell ⟨bx + 1, 0, none⟩ (.int .i64 m.most)).setCell ⟨bx + 1, 1, none⟩ (.int .i64 m.last)).setCell ⟨bx + 1, 2, none⟩ (.slice a1 n1 c1)).setCell ⟨bx + 1, 3, none⟩ (.slice a2 n2 c2)).setCell ⟨bx + 1, 4, none⟩ (.slice a3 n3 c3)) = V at y0 y1 y2 y3 y4 KF K5 ⊢
      refine bodyPost_ret (v := .tuple #[.agg #[.int .i64 m.most, .int .i64 m.last, .slice a1 n1 c1, .slice a2 n2 c2, .slice a3 n3 c3], .int .u32 0, .int .i64 31]) (by simp [results, Tryd.f28, go_sem, y0, y1, y2, y3, y4]) rfl ?_
      exact ⟨_, _, _, _, _, _, _, _, _, rfl, ⟨H.it.step KF.it 9⟩, KF⟩
    · have el : m.ask.last = m.last + 1 := by unfold Pm.ask; rw [if_neg hx]; exact HF.it.tok hb
      rw [if_neg hx, if_neg hx, el, HF.it.tok hb]
      have EK := Aside.mk (HF.it.ask_ks hb hx)
      have EA : Aside (m.ask.an = m.an ∧ m.ask.ow = m.ow) := ⟨by unfold Pm.ask; rw [if_neg hx]; exact ⟨rfl, rfl⟩⟩
      have e1 : decide (m.most ≤ n1) = false := decide_eq_false (by rw [← HN.it.1]; exact hx)
      have BH := Aside.mk (fun (V : World) (k : Keeps Nowhere w V) => dbehind (L := ks m.L) (H.it.quiet k).wt.r (m.last + 1) (by rw [len_ks]; have := HO.it.wl; have := HO.it.top; omega))
      have X2 := Aside.mk (X.it.put 1 (.int .i64 (m.last + 1)))
      simp only [List.set_cons_succ, List.set_cons_zero] at X2
      obtain ⟨la, hla⟩ : ∃ la, m.last = la := ⟨_, rfl⟩
      have hlb : la < 4294967295 := by omega
      have HLA := Aside.mk hla
      rw [hla] at k1 X2 ⊢ BH EK
      rw [hla] at hW1
      clear h0 hx hb el hla
      go_enter Tryd.func28, Tryd.ntmps28
      go_upto_region 1 with fail
      clear hW1 hbx
      go_upto_region 6 with fail
      generalize hW2 : W1.setCell ⟨bx, 1, none⟩ (.int .i64 (la + 1)) = W2 at X2 ⊢
      clear hW2
      have CV : IntKind.u32.wrap ((la : Int) + 1) = (la + 1 : Nat) := by simp [IntKind.wrap, IntKind.bits, IntKind.signed]; omega
      have BW := Aside.mk (BH.it W2 X2.it.k)
      clear k0 k1 k2 k3 k4 kf r0 r1 r2 r3 r4 rf BH
      obtain ⟨k0, k1, k2, k3, k4, kf⟩ := X2.it.cells
      go_upto_region 7 with (first | (go_at_call 40; refine BW.it.mono ?_; clear BW; rintro e w2 ⟨ba, bl, bc, rfl, R2, K2⟩; obtain ⟨k0', k1', k2', k3', k4', kf'⟩ := (X2.it.quiet K2.it).cells) | fail)
      have X3 := Aside.mk ((X2.it.quiet K2.it).put 2 (.slice ba bl bc))
      simp only [List.set_cons_succ, List.set_cons_zero] at X3
      have KS : Aside (Keeps (fun k => k = bx) w2 (w2.setCell ⟨bx, 2, none⟩ (.slice ba bl bc))) := ⟨(Keeps.refl _ _).setCell _ _ (fun _ => rfl)⟩
      clear k0 k1 k2 k3 k4 kf k0' k1' k2' k3' k4' kf'
      generalize w2.setCell ⟨bx, 2, none⟩ (.slice ba bl bc) = W3 at X3 KS ⊢
      obtain ⟨k0, k1, k2, k3, k4, kf⟩ := X3.it.cells
      obtain ⟨r0, r1, r2, r3, r4, rf⟩ := X3.it.res
      go_region
      all_goals go_wp2_with fail
      obtain ⟨⟨y0, y1, y2, y3, y4⟩, KF⟩ := X3.it.fin (.int .i64 m.most) (.int .i64 ((la : Int) + 1)) (.slice ba bl bc) (.slice a2 n2 c2) (.slice a3 n3 c3)
      have K5 := Aside.mk (keeps5 W3 (bx + 1) (.int .i64 m.most) (.int .i64 ((la : Int) + 1)) (.slice ba bl bc) (.slice a2 n2 c2) (.slice a3 n3 c3))
      unfold set5 at y0 y1 y2 y3 y4 KF K5
      generalize (((((W3.setCell ⟨bx + 1, 0, none⟩ (.int .i64 m.most)).setCell ⟨bx + 1, 1, none⟩ (.int .i64 ((la : Int) + 1))).setCell ⟨bx + 1, 2, none⟩ (.slice ba bl bc)).setCell ⟨bx + 1, 3, none⟩ (.slice a2 n2 c2)).setCell ⟨bx + 1, 4, none⟩ (.slice a3 n3 c3)) = V at y0 y1 y2 y3 y4 KF K5 ⊢
      have y0 : V.drew.cell? ⟨bx + 1, 0, none⟩ = some (.int .i64 m.most) := y0
      have y1 : V.drew.cell? ⟨bx + 1, 1, none⟩ = some (.int .i64 ((la : Int) + 1)) := y1
      have y2 : V.drew.cell? ⟨bx + 1, 2, none⟩ = some (.slice ba bl bc) := y2
      have y3 : V.drew.cell? ⟨bx + 1, 3, none⟩ = some (.slice a2 n2 c2) := y3
      have y4 : V.drew.cell? ⟨bx + 1, 4, none⟩ = some (.slice a3 n3 c3) := y4
      have KF := Aside.mk KF.it.drew
      have K5 := Aside.mk K5.it.drew
      generalize V.drew = U at y0 y1 y2 y3 y4 KF K5 ⊢
      refine bodyPost_ret (v := .tuple #[.agg #[.int .i64 m.most, .int .i64 ((la : Int) + 1), .slice ba bl bc, .slice a2 n2 c2, .slice a3 n3 c3], .int .u32 ((la : Int) + 1), .int .i64 0]) (by simp [results, Tryd.f28, go_sem, y0, y1, y2, y3, y4]) rfl ?_
      exact ⟨_, _, _, _, _, _, _, _, _, rfl, ⟨⟨by rw [EK.it]; exact X2.it.row R2.it ((KS.it.mono (fun _ e _ => .inl e)).trans (K5.it.mono (fun _ e _ => .inr e))), by rw [EA.it.1]; exact (H.it.step KF.it 9).a, by rw [EA.it.2]; exact (H.it.step KF.it 9).o⟩⟩, KF⟩

set_option maxRecDepth 8000 in
set_option maxHeartbeats 1000000 in
theorem drepl (h : Dm own w vw va vo m) (hok : m.Ok) : Calls Tryd.prog 31 #[.agg #[.int .i64 m.most, .int .i64 m.last, vw, va, vo]] w fun e w' => ∃ b1 l1 d1 b2 l2 d2 b3 l3 d3, e = .returned (.tuple #[.agg #[.int .i64 m.repl.most, .int .i64 m.repl.last, .slice b1 l1 d1, .slice b2 l2 d2, .slice b3 l3 d3], .int .u32 (hd0 m.ow : Nat), .bool (some0 m.ow)]) ∧ Aside (Dm (give own w.heap.size 9) w' (.slice b1 l1 d1) (.slice b2 l2 d2) (.slice b3 l3 d3) m.repl) ∧ Aside (Keeps Nowhere w w') := by
  show Calls _ _ _ _ fun e w' => ∃ b1 l1 d1 b2 l2 d2 b3 l3 d3, e = .returned (.tuple #[.agg #[.int .i64 m.most, .int .i64 m.last, .slice b1 l1 d1, .slice b2 l2 d2, .slice b3 l3 d3], .int .u32 (hd0 m.ow : Nat), .bool (some0 m.ow)]) ∧ Aside (Dm (give own w.heap.size 9) w' (.slice b1 l1 d1) (.slice b2 l2 d2) (.slice b3 l3 d3) m.repl) ∧ Aside (Keeps Nowhere w w')
  have X := Aside.mk (Dz.start w (.int .i64 m.most) (.int .i64 m.last) vw va vo); obtain ⟨a1, c1, rfl, hl1, hm1⟩ := h.wt.shape; obtain ⟨a2, c2, rfl, hl2, hm2⟩ := h.a.shape; obtain ⟨a3, c3, rfl, hl3, hm3⟩ := h.o.shape; have H := Aside.mk h; rw [len_ks] at X hl1 H ⊢; obtain ⟨bx, hbx⟩ : ∃ bx, w.heap.size = bx := ⟨_, rfl⟩; obtain ⟨n1, hn1⟩ : ∃ n, m.L.length = n := ⟨_, rfl⟩; obtain ⟨n2, hn2⟩ : ∃ n, m.an.length = n := ⟨_, rfl⟩; obtain ⟨n3, hn3⟩ : ∃ n, m.ow.length = n := ⟨_, rfl⟩; have HN := Aside.mk (And.intro hn1 (And.intro hn2 hn3)); rw [hn1] at X hl1 H ⊢; rw [hn2] at X hl2 H ⊢; rw [hn3] at X hl3 H ⊢; obtain ⟨W1, hW1⟩ : ∃ W1, ((w.alloc (.cells #[.int .i64 m.most, .int .i64 m.last, .slice a1 n1 c1, .slice a2 n2 c2, .slice a3 n3 c3] 34)).alloc (.cells #[.int .i64 0, .int .i64 0, .slice none 0 0, .slice none 0 0, .slice none 0 0] 34)) = W1 := ⟨_, rfl⟩; rw [hW1] at X; have HB := Aside.mk hbx; rw [hbx] at X; obtain ⟨k0, k1, k2, k3, k4, kf⟩ := X.it.cells; obtain ⟨r0, r1, r2, r3, r4, rf⟩ := X.it.res; have HO := Aside.mk hok; clear hn1 hn2 hn3 h hok
  cases hO : m.ow with
  | nil =>
    have e3 : n3 = 0 := by have := HN.it.2.2; rw [hO] at this; exact this.symm
    subst e3
    rw [show hd0 [] = 0 from rfl, show some0 [] = false from rfl]
    have er : m.repl = m := by
      obtain ⟨mo, la, L, an, ow⟩ := m
      simp only at hO
      subst hO
      rfl
    rw [er]
    clear hO er
    go_enter Tryd.func31, Tryd.ntmps31
    go_upto_region 1 with fail
    clear hW1 hbx
    go_wp2_with fail
    obtain ⟨⟨y0, y1, y2, y3, y4⟩, KF⟩ := X.it.fin (.int .i64 m.most) (.int .i64 m.last) (.slice a1 n1 c1) (.slice a2 n2 c2) (.slice a3 0 c3)
    have K5 := Aside.mk (keeps5 W1 (bx + 1) (.int .i64 m.most) (.int .i64 m.last) (.slice a1 n1 c1) (.slice a2 n2 c2) (.slice a3 0 c3))
    unfold set5 at y0 y1 y2 y3 y4 KF K5
    generalize (((((W1.setCell ⟨bx + 1, 0, none⟩ (.int .i64 m.most)).setCell ⟨bx + 1, 1, none⟩ (.int .i64 m.last)).setCell ⟨bx + 1, 2, none⟩ (.slice a1 n1 c1)).setCell ⟨bx + 1, 3, none⟩ (.slice a2 n2 c2)).setCell ⟨bx + 1, 4, none⟩ (.slice a3 0 c3)) = V at y0 y1 y2 y3 y4 KF K5 ⊢
    refine bodyPost_ret (v := .tuple #[.agg #[.int .i64 m.most, .int .i64 m.last, .slice a1 n1 c1, .slice a2 n2 c2, .slice a3 0 c3], .int .u32 0, .bool false]) (by simp [results, Tryd.f31, go_sem, y0, y1, y2, y3, y4]) rfl ?_
    exact ⟨_, _, _, _, _, _, _, _, _, rfl, ⟨H.it.step KF.it 9⟩, KF⟩
  | cons x O =>
    have RO := Aside.mk (H.it.quiet X.it.k).o
    obtain ⟨ga, gc, hg, _, hgc⟩ := RO.it.at
    injection hg with hg1 hg2 hg3
    subst hg1 hg3
    clear hg2
    obtain ⟨g, o, rfl, x0⟩ := hgc 0 x (by rw [hO]; rfl)
    rw [Nat.add_zero] at x0
    obtain ⟨k, hk⟩ : ∃ k, O.length = k := ⟨_, rfl⟩
    have e3 : n3 = k + 1 := by have := HN.it.2.2; rw [hO, List.length_cons, hk] at this; exact this.symm
    subst e3
    have HK := Aside.mk hk
    have HOW := Aside.mk hO
    rw [show hd0 (x :: O) = x from rfl, show some0 (x :: O) = true from rfl]
    have hk4 : k ≤ 1024 := by have h1 := HO.it.ol; have h2 := HO.it.top; have h3 := HN.it.2.2; omega
    have RD := Aside.mk (readsK_drop (k := 1) (l := k + 1) (c := c3) (a := some ⟨g, o, none⟩) (L := x :: O) (by have := RO.it.r; rw [HN.it.2.2, hO] at this; exact this) (by omega))
    have hs2 : Aside (bx + 2 ≤ W1.heap.size) := ⟨X.it.c2.lt⟩
    have al0 := alloc_cell (W := W1) (Obj.cells #[] 37) (a := ⟨bx, 0, none⟩) k0
    have al1 := alloc_cell (W := W1) (Obj.cells #[] 37) (a := ⟨bx, 1, none⟩) k1
    have al4 := alloc_cell (W := W1) (Obj.cells #[] 37) (a := ⟨bx, 4, none⟩) k4
    have hc1 : (1 : Int) ≤ c3 := by omega
    have KA : Aside (Keeps Nowhere W1 (W1.alloc (.cells #[] 37))) := ⟨(Keeps.refl _ _).alloc _⟩
    have hl0 : ((k : Int) + 1 == 0) = false := beq_eq_false_iff_ne.2 (by omega)
    clear hk hO hgc
    obtain ⟨sl, hsl, RS⟩ : ∃ sl, Aside (sl = (if c3 = 1 then some ⟨g, o, none⟩ else some ⟨g, o + 1, none⟩ : Option Addr)) ∧ Aside (ReadsK 1 W1 (.slice sl k (c3 - 1)) k (O.map e32)) := by
      refine ⟨_, ⟨rfl⟩, ⟨?_⟩⟩
      have := RD.it
      simpa [Option.map_some, add_none] using this
    have AP := Aside.mk (app32 (ns := []) (ms := O) (W1.alloc (.cells #[] 37)) W1.heap.size (owns_empty W1 37) (by rw [HK.it]; exact RS.it.later KA.it (fun _ _ x => x)) (by rw [HK.it]; simp; omega) (by simp))
    obtain ⟨ba, bl, bc, w2, run2, o2, q2, _⟩ := AP.it
    have K2 : Aside (Keeps Nowhere W1 w2) := ⟨KA.it.next q2 (fun k e hlt => by have := owns_base (owns_empty W1 37) k e; omega)⟩
    have R2 := Aside.mk (show w2.ownsRow W1.heap.size 37 1 (.slice ba bl bc) O.length (O.map e32) by simpa using o2)
    have X3 := Aside.mk ((X.it.quiet K2.it).put 4 (.slice ba bl bc))
    simp only [List.set_cons_succ, List.set_cons_zero] at X3
    have KS : Aside (Keeps (fun k => k = bx) w2 (w2.setCell ⟨bx, 4, none⟩ (.slice ba bl bc))) := ⟨(Keeps.refl _ _).setCell _ _ (fun _ => rfl)⟩
    obtain ⟨j0, j1, j2, j3, j4, jf⟩ := (X.it.quiet K2.it).cells
    have ER : Aside (m.repl.ow = O) := ⟨by show m.ow.tail = O; rw [HOW.it]; rfl⟩
    clear RD o2 q2 AP
    by_cases hce : c3 = 1
    · have e0 : k = 0 := by omega
      subst e0 hce
      have es := hsl.it
      rw [if_pos rfl] at es
      subst es
      clear hsl
      go_enter Tryd.func31, Tryd.ntmps31
      go_upto_region 1 with fail
      clear hW1 hbx
      go_upto_region 5 with fail
      clear k0 k1 k2 k3 k4 kf r0 r1 r2 r3 r4 rf j0 j1 j2 j3 j4 jf al0 al1 al4
      generalize w2.setCell ⟨bx, 4, none⟩ (.slice ba bl bc) = W3 at X3 KS ⊢
      obtain ⟨k0, k1, k2, k3, k4, kf⟩ := X3.it.cells
      obtain ⟨r0, r1, r2, r3, r4, rf⟩ := X3.it.res
      go_wp2_with fail
      obtain ⟨⟨y0, y1, y2, y3, y4⟩, KF⟩ := X3.it.fin (.int .i64 m.most) (.int .i64 m.last) (.slice a1 n1 c1) (.slice a2 n2 c2) (.slice ba bl bc)
      have K5 := Aside.mk (keeps5 W3 (bx + 1) (.int .i64 m.most) (.int .i64 m.last) (.slice a1 n1 c1) (.slice a2 n2 c2) (.slice ba bl bc))
      unfold set5 at y0 y1 y2 y3 y4 KF K5
      generalize (((((W3.setCell ⟨bx + 1, 0, none⟩ (.int .i64 m.most)).setCell ⟨bx + 1, 1, none⟩ (.int .i64 m.last)).setCell ⟨bx + 1, 2, none⟩ (.slice a1 n1 c1)).setCell ⟨bx + 1, 3, none⟩ (.slice a2 n2 c2)).setCell ⟨bx + 1, 4, none⟩ (.slice ba bl bc)) = V at y0 y1 y2 y3 y4 KF K5 ⊢
      refine bodyPost_ret (v := .tuple #[.agg #[.int .i64 m.most, .int .i64 m.last, .slice a1 n1 c1, .slice a2 n2 c2, .slice ba bl bc], .int .u32 (x : Nat), .bool true]) (by simp [results, Tryd.f31, go_sem, y0, y1, y2, y3, y4]) rfl ?_
      exact ⟨_, _, _, _, _, _, _, _, _, rfl, ⟨⟨(H.it.step KF.it 9).wt, (H.it.step KF.it 9).a, by rw [ER.it]; exact X.it.row R2.it ((KS.it.mono (fun _ e _ => .inl e)).trans (K5.it.mono (fun _ e _ => .inr e)))⟩⟩, KF⟩
    · have es := hsl.it
      rw [if_neg hce] at es
      subst es
      clear hsl
      go_enter Tryd.func31, Tryd.ntmps31
      go_upto_region 1 with fail
      clear hW1 hbx
      go_upto_region 5 with fail
      clear k0 k1 k2 k3 k4 kf r0 r1 r2 r3 r4 rf j0 j1 j2 j3 j4 jf al0 al1 al4
      generalize w2.setCell ⟨bx, 4, none⟩ (.slice ba bl bc) = W3 at X3 KS ⊢
      obtain ⟨k0, k1, k2, k3, k4, kf⟩ := X3.it.cells
      obtain ⟨r0, r1, r2, r3, r4, rf⟩ := X3.it.res
      go_wp2_with fail
      obtain ⟨⟨y0, y1, y2, y3, y4⟩, KF⟩ := X3.it.fin (.int .i64 m.most) (.int .i64 m.last) (.slice a1 n1 c1) (.slice a2 n2 c2) (.slice ba bl bc)
      have K5 := Aside.mk (keeps5 W3 (bx + 1) (.int .i64 m.most) (.int .i64 m.last) (.slice a1 n1 c1) (.slice a2 n2 c2) (.slice ba bl bc))
      unfold set5 at y0 y1 y2 y3 y4 KF K5
      generalize (((((W3.setCell ⟨bx + 1, 0, none⟩ (.int .i64 m.most)).setCell ⟨bx + 1, 1, none⟩ (.int .i64 m.last)).setCell ⟨bx + 1, 2, none⟩ (.slice a1 n1 c1)).setCell ⟨bx + 1, 3, none⟩ (.slice a2 n2 c2)).setCell ⟨bx + 1, 4, none⟩ (.slice ba bl bc)) = V at y0 y1 y2 y3 y4 KF K5 ⊢
      refine bodyPost_ret (v := .tuple #[.agg #[.int .i64 m.most, .int .i64 m.last, .slice a1 n1 c1, .slice a2 n2 c2, .slice ba bl bc], .int .u32 (x : Nat), .bool true]) (by simp [results, Tryd.f31, go_sem, y0, y1, y2, y3, y4]) rfl ?_
      exact ⟨_, _, _, _, _, _, _, _, _, rfl, ⟨⟨(H.it.step KF.it 9).wt, (H.it.step KF.it 9).a, by rw [ER.it]; exact X.it.row R2.it ((KS.it.mono (fun _ e _ => .inl e)).trans (K5.it.mono (fun _ e _ => .inr e)))⟩⟩, KF⟩
set_option maxRecDepth 8000 in
set_option maxHeartbeats 1000000 in
theorem dheard (h : Dm own w vw va vo m) (hok : m.Ok) (t : Nat) (han : (m.an.length + 1) * 4 ≤ 140737488355328) : Calls Tryd.prog 29 #[.agg #[.int .i64 m.most, .int .i64 m.last, vw, va, vo], .int .u32 (t : Nat)] w fun e w' => ∃ b1 l1 d1 b2 l2 d2 b3 l3 d3, e = .returned (.tuple #[.agg #[.int .i64 (m.heard t).most, .int .i64 (m.heard t).last, .slice b1 l1 d1, .slice b2 l2 d2, .slice b3 l3 d3], .int .i64 (m.heardC t)]) ∧ Aside (Dm (give own w.heap.size 9) w' (.slice b1 l1 d1) (.slice b2 l2 d2) (.slice b3 l3 d3) (m.heard t)) ∧ Aside (Keeps Nowhere w w') := by
  rw [Pm.most_heard, Pm.last_heard]
  have X := Aside.mk (Dz.start w (.int .i64 m.most) (.int .i64 m.last) vw va vo); obtain ⟨a1, c1, rfl, hl1, hm1⟩ := h.wt.shape; obtain ⟨a2, c2, rfl, hl2, hm2⟩ := h.a.shape; obtain ⟨a3, c3, rfl, hl3, hm3⟩ := h.o.shape; have H := Aside.mk h; rw [len_ks] at X hl1 H ⊢; obtain ⟨bx, hbx⟩ : ∃ bx, w.heap.size = bx := ⟨_, rfl⟩; obtain ⟨n1, hn1⟩ : ∃ n, m.L.length = n := ⟨_, rfl⟩; obtain ⟨n2, hn2⟩ : ∃ n, m.an.length = n := ⟨_, rfl⟩; obtain ⟨n3, hn3⟩ : ∃ n, m.ow.length = n := ⟨_, rfl⟩; have HN := Aside.mk (And.intro hn1 (And.intro hn2 hn3)); rw [hn1] at X hl1 H ⊢; rw [hn2] at X hl2 H ⊢; rw [hn3] at X hl3 H ⊢; obtain ⟨W1, hW1⟩ : ∃ W1, ((w.alloc (.cells #[.int .i64 m.most, .int .i64 m.last, .slice a1 n1 c1, .slice a2 n2 c2, .slice a3 n3 c3] 34)).alloc (.cells #[.int .i64 0, .int .i64 0, .slice none 0 0, .slice none 0 0, .slice none 0 0] 34)) = W1 := ⟨_, rfl⟩; rw [hW1] at X; have HB := Aside.mk hbx; rw [hbx] at X; obtain ⟨k0, k1, k2, k3, k4, kf⟩ := X.it.cells; obtain ⟨r0, r1, r2, r3, r4, rf⟩ := X.it.res; have HO := Aside.mk hok; clear hn1 hn2 hn3 h hok
  unfold Pm.heardC
  have HAN := Aside.mk han
  clear han
  by_cases h0 : m.most = 0
  · rw [if_pos h0]
    have ea : m.heard t = m := by
      have h1 : m.L = [] := List.eq_nil_of_length_eq_zero (by have := HO.it.wl; omega)
      unfold Pm.heard
      rw [h1]
      rfl
    rw [ea]
    have e0 : ((m.most : Int) == 0) = true := by rw [h0]; rfl
    clear h0 ea
    go_enter Tryd.func29, Tryd.ntmps29
    go_upto_region 1 with fail
    clear hW1 hbx
    go_wp2_with fail
    obtain ⟨⟨y0, y1, y2, y3, y4⟩, KF⟩ := X.it.fin (.int .i64 m.most) (.int .i64 m.last) (.slice a1 n1 c1) (.slice a2 n2 c2) (.slice a3 n3 c3)
    have K5 := Aside.mk (keeps5 W1 (bx + 1) (.int .i64 m.most) (.int .i64 m.last) (.slice a1 n1 c1) (.slice a2 n2 c2) (.slice a3 n3 c3))
    unfold set5 at y0 y1 y2 y3 y4 KF K5
    generalize (((((W1.setCell ⟨bx + 1, 0, none⟩ (.int .i64 m.most)).setCell ⟨bx + 1, 1, none⟩ (.int .i64 m.last)).setCell ⟨bx + 1, 2, none⟩ (.slice a1 n1 c1)).setCell ⟨bx + 1, 3, none⟩ (.slice a2 n2 c2)).setCell ⟨bx + 1, 4, none⟩ (.slice a3 n3 c3)) = V at y0 y1 y2 y3 y4 KF K5 ⊢
    refine bodyPost_ret (v := .tuple #[.agg #[.int .i64 m.most, .int .i64 m.last, .slice a1 n1 c1, .slice a2 n2 c2, .slice a3 n3 c3], .int .i64 1]) (by simp [results, Tryd.f29, go_sem, y0, y1, y2, y3, y4]) rfl ?_
    exact ⟨_, _, _, _, _, _, _, _, _, rfl, ⟨H.it.step KF.it 9⟩, KF⟩
  · rw [if_neg h0]
    obtain ⟨cd, hcd⟩ : ∃ cd : Int, (if (tlook m.L t).isSome = true then 0 else 22) = cd := ⟨_, rfl⟩
    rw [hcd]
    have HCD := Aside.mk hcd
    clear hcd
    have e0 : ((m.most : Int) == 0) = false := beq_eq_false_iff_ne.2 (by omega)
    have RW := Aside.mk (H.it.quiet X.it.k).wt
    obtain ⟨ga, gc, hg, _, hgc⟩ := RW.it.at
    injection hg with hg1 hg2 hg3
    subst hg1 hg3
    have HGC := Aside.mk hgc
    have hn1 : n1 ≤ 1024 := by have h1 := HO.it.wl; have h2 := HO.it.top; have h3 := HN.it.1; omega
    have LK : Aside ((ks m.L).length = n1) := ⟨by rw [len_ks]; exact HN.it.1⟩
    clear hg2 h0 hgc
    go_enter Tryd.func29, Tryd.ntmps29
    go_upto_region 1 with fail
    clear hW1 hbx
    go_upto_region 4 with fail
    go_loopw [6] (fun v wr => ∃ j : Nat, v = .int .i64 j ∧ j ≤ n1 ∧ wr = W1 ∧ Aside (t ∉ (ks m.L).take j)) (fun v _ => n1 - natOf v)
    case atStart => exact ⟨0, rfl, Nat.zero_le _, rfl, ⟨by simp⟩⟩
    case round =>
      obtain ⟨j, rfl, hj, rfl, ht⟩ := hrel
      rcases Nat.eq_or_lt_of_le hj with rfl | hlt
      · have HT := Aside.mk (show t ∉ ks m.L by have := ht.it; rwa [List.take_of_length_le (by rw [LK.it]; exact Nat.le_refl _)] at this)
        have hno : (tlook m.L t).isSome = false := by rw [look_mem]; simp [HT.it]
        have ea : m.heard t = m := by unfold Pm.heard; rw [hno]; rfl
        have EA := Aside.mk (And.intro ea hno)
        clear ht ea hno
        go_wp2_with fail
        obtain ⟨⟨y0, y1, y2, y3, y4⟩, KF⟩ := X.it.fin (.int .i64 m.most) (.int .i64 m.last) (.slice a1 j c1) (.slice a2 n2 c2) (.slice a3 n3 c3)
        have K5 := Aside.mk (keeps5 wr (bx + 1) (.int .i64 m.most) (.int .i64 m.last) (.slice a1 j c1) (.slice a2 n2 c2) (.slice a3 n3 c3))
        unfold set5 at y0 y1 y2 y3 y4 KF K5
        generalize (((((wr.setCell ⟨bx + 1, 0, none⟩ (.int .i64 m.most)).setCell ⟨bx + 1, 1, none⟩ (.int .i64 m.last)).setCell ⟨bx + 1, 2, none⟩ (.slice a1 j c1)).setCell ⟨bx + 1, 3, none⟩ (.slice a2 n2 c2)).setCell ⟨bx + 1, 4, none⟩ (.slice a3 n3 c3)) = V at y0 y1 y2 y3 y4 KF K5 ⊢
        refine bodyPost_ret (v := .tuple #[.agg #[.int .i64 m.most, .int .i64 m.last, .slice a1 j c1, .slice a2 n2 c2, .slice a3 n3 c3], .int .i64 22]) (by simp [results, Tryd.f29, go_sem, y0, y1, y2, y3, y4]) rfl ?_
        have ec : cd = 22 := by rw [← HCD.it, EA.it.2]; rfl
        rw [EA.it.1, ec]
        exact ⟨_, _, _, _, _, _, _, _, _, rfl, ⟨H.it.step KF.it 9⟩, KF⟩
      · obtain ⟨x, hx⟩ : ∃ x, (ks m.L)[j]? = some x := ⟨_, List.getElem?_eq_getElem (by rw [LK.it]; exact hlt)⟩
        obtain ⟨g, o, rfl, x0⟩ := HGC.it j x hx
        have HX := Aside.mk hx
        clear hx
        by_cases hk : x = t
        · have hkk : ((x : Int) == t) = true := by simp [hk]
          have HX2 := Aside.mk (show (ks m.L)[j]? = some t from hk ▸ HX.it)
          have hyes : (tlook m.L t).isSome = true := by rw [look_mem]; simp [List.mem_of_getElem? HX2.it]
          have ea : m.heard t = { m with L := tdel m.L t, an := m.an ++ [t] } := by unfold Pm.heard; rw [hyes]; rfl
          have EK := Aside.mk (ks_tdel_at HO.it.up HX2.it)
          have EA := Aside.mk (And.intro ea hyes)
          have RR := Aside.mk (show ReadsK 1 wr (.slice (some ⟨g, o, none⟩) n1 c1) n1 ((ks m.L).map e32) by have := RW.it.r; rw [LK.it] at this; exact this)
          have RT := Aside.mk (readsK_take RR.it (Nat.le_of_lt hlt))
          have RD := Aside.mk (readsK_drop (k := j + 1) RR.it hlt)
          have KA : Aside (Keeps Nowhere wr (wr.alloc (.cells #[] 37))) := ⟨(Keeps.refl _ _).alloc _⟩
          have LT : Aside (((ks m.L).take j).length = j ∧ ((ks m.L).drop (j + 1)).length = n1 - (j + 1)) := ⟨by rw [List.length_take, List.length_drop, LK.it]; exact ⟨by omega, rfl⟩⟩
          obtain ⟨ea2, el2, ec2, w2, run2, o2, q2, _⟩ := app32 (ns := []) (ms := (ks m.L).take j) (wr.alloc (.cells #[] 37)) wr.heap.size (owns_empty wr 37) (by rw [LT.it.1]; exact RT.it.later KA.it (fun _ _ x => x)) (by rw [LT.it.1]; simp; omega) (by simp)
          rw [List.nil_append] at o2
          have K2 : Aside (Keeps Nowhere wr w2) := ⟨KA.it.next q2 (fun k e hlt => by have := owns_base (owns_empty wr 37) k e; omega)⟩
          obtain ⟨sl, hsl, RS⟩ : ∃ sl, Aside (sl = (if c1 = j + 1 then some ⟨g, o, none⟩ else some ⟨g, o + (j + 1), none⟩ : Option Addr)) ∧ Aside (ReadsK 1 wr (.slice sl (n1 - (j + 1)) (c1 - (j + 1))) (n1 - (j + 1)) (((ks m.L).drop (j + 1)).map e32)) := by
            refine ⟨_, ⟨rfl⟩, ⟨?_⟩⟩
            have := RD.it
            simp only [Option.map_some, add_none] at this
            exact this
          obtain ⟨ba, bl, bc, w3, run3, o3, q3, _⟩ := app32 (ns := (ks m.L).take j) (ms := (ks m.L).drop (j + 1)) w2 wr.heap.size o2 (by rw [LT.it.2]; exact RS.it.later K2.it (fun _ _ x => x)) (by rw [LT.it.1, LT.it.2]; omega) K2.it.size
          have K3 : Aside (Keeps Nowhere wr w3) := ⟨K2.it.next q3 (fun k e hlt => by have := owns_base o2 k e; omega)⟩
          have R3 := Aside.mk o3
          have al := fun i v (hc : wr.cell? ⟨bx, i, none⟩ = some v) => alloc_cell (W := wr) (Obj.cells #[] 37) (a := ⟨bx, i, none⟩) hc
          have al2 := al 2 _ k2
          obtain ⟨i0, i1, i2, i3, i4, jf⟩ := (X.it.quiet K2.it).cells
          obtain ⟨j0, j1, j2, j3, j4, jf3⟩ := (X.it.quiet K3.it).cells
          have X3 := Aside.mk ((X.it.quiet K3.it).put 2 (.slice ba bl bc))
          simp only [List.set_cons_succ, List.set_cons_zero] at X3
          have KS : Aside (Keeps (fun k => k = bx) w3 (w3.setCell ⟨bx, 2, none⟩ (.slice ba bl bc))) := ⟨(Keeps.refl _ _).setCell _ _ (fun _ => rfl)⟩
          have KX : Aside (Keeps Nowhere w (w3.setCell ⟨bx, 2, none⟩ (.slice ba bl bc))) := ⟨X3.it.k⟩
          have BH := Aside.mk (dbehind (L := m.an) (H.it.quiet KX.it).a.r t HAN.it)
          have hj0 : (0 : Int) ≤ j := by omega
          have hj1 : (j : Int) ≤ c1 := by omega
          have hj2 : (j : Int) ≤ 9223372036854775806 := by omega
          have hj3 : (j : Int) + 1 ≤ n1 := by omega
          clear ea hyes hk o2 q2 o3 q3 RR RT RD al ht
          by_cases hce : c1 = j + 1
          · have en : n1 = j + 1 := by omega
            have es := hsl.it
            rw [if_pos hce] at es
            subst es
            clear hsl
            have e9 : n1 - (j + 1) = 0 := by omega
            have e8 : c1 - (j + 1) = 0 := by omega
            rw [e9, e8] at run3
            subst hce
            subst en
            go_upto_region 9 with fail
            clear k0 k1 k2 k3 k4 kf r0 r1 r2 r3 r4 rf i0 i1 i2 i3 i4 jf al2
            go_upto_region 10 with fail
            clear j0 j1 j2 j3 j4 jf3
            generalize w3.setCell ⟨bx, 2, none⟩ (.slice ba bl bc) = W3 at X3 KS KX BH ⊢
            obtain ⟨k0, k1, k2, k3, k4, kf⟩ := X3.it.cells
            go_upto_region 11 with (first | (go_at_call 40; refine BH.it.mono ?_; clear BH; rintro e w4 ⟨da, dl, dc, rfl, R4, K4⟩; obtain ⟨k0', k1', k2', k3', k4', kf'⟩ := (X3.it.quiet K4.it).cells) | fail)
            have X5 := Aside.mk ((X3.it.quiet K4.it).put 3 (.slice da dl dc))
            simp only [List.set_cons_succ, List.set_cons_zero] at X5
            have KT : Aside (Keeps (fun k => k = bx) w4 (w4.setCell ⟨bx, 3, none⟩ (.slice da dl dc))) := ⟨(Keeps.refl _ _).setCell _ _ (fun _ => rfl)⟩
            clear k0 k1 k2 k3 k4 kf k0' k1' k2' k3' k4' kf'
            generalize w4.setCell ⟨bx, 3, none⟩ (.slice da dl dc) = W5 at X5 KT ⊢
            obtain ⟨k0, k1, k2, k3, k4, kf⟩ := X5.it.cells
            obtain ⟨r0, r1, r2, r3, r4, rf⟩ := X5.it.res
            go_wp2_with fail
            (try simp only [Exit.inBlock, Exit.then])
            obtain ⟨⟨y0, y1, y2, y3, y4⟩, KF⟩ := X5.it.fin (.int .i64 m.most) (.int .i64 m.last) (.slice ba bl bc) (.slice da dl dc) (.slice a3 n3 c3)
            have K5 := Aside.mk (keeps5 W5 (bx + 1) (.int .i64 m.most) (.int .i64 m.last) (.slice ba bl bc) (.slice da dl dc) (.slice a3 n3 c3))
            unfold set5 at y0 y1 y2 y3 y4 KF K5
            generalize (((((W5.setCell ⟨bx + 1, 0, none⟩ (.int .i64 m.most)).setCell ⟨bx + 1, 1, none⟩ (.int .i64 m.last)).setCell ⟨bx + 1, 2, none⟩ (.slice ba bl bc)).setCell ⟨bx + 1, 3, none⟩ (.slice da dl dc)).setCell ⟨bx + 1, 4, none⟩ (.slice a3 n3 c3)) = V at y0 y1 y2 y3 y4 KF K5 ⊢
            refine bodyPost_ret (v := .tuple #[.agg #[.int .i64 m.most, .int .i64 m.last, .slice ba bl bc, .slice da dl dc, .slice a3 n3 c3], .int .i64 0]) (by simp [results, Tryd.f29, go_sem, y0, y1, y2, y3, y4]) rfl ?_
            have ec : cd = 0 := by rw [← HCD.it, EA.it.2]; rfl
            rw [EA.it.1, ec]
            have k35 : Keeps (fun k => k = bx ∨ k = bx + 1) w3 V := (KS.it.mono (fun _ e _ => .inl e)).trans ((K4.it.mono (fun _ x _ => x.elim)).trans ((KT.it.mono (fun _ e _ => .inl e)).trans (K5.it.mono (fun _ e _ => .inr e))))
            have k45 : Keeps (fun k => k = bx ∨ k = bx + 1) w4 V := (KT.it.mono (fun _ e _ => .inl e)).trans (K5.it.mono (fun _ e _ => .inr e))
            exact ⟨_, _, _, _, _, _, _, _, _, rfl, ⟨⟨by show RdN _ _ _ (ks (tdel m.L t)); rw [EK.it]; exact X.it.row R3.it k35, X3.it.row R4.it k45, (H.it.step KF.it 9).o⟩⟩, KF⟩
          · have es := hsl.it
            rw [if_neg hce] at es
            subst es
            clear hsl
            go_upto_region 9 with fail
            clear k0 k1 k2 k3 k4 kf r0 r1 r2 r3 r4 rf i0 i1 i2 i3 i4 jf al2
            go_upto_region 10 with fail
            clear j0 j1 j2 j3 j4 jf3
            generalize w3.setCell ⟨bx, 2, none⟩ (.slice ba bl bc) = W3 at X3 KS KX BH ⊢
            obtain ⟨k0, k1, k2, k3, k4, kf⟩ := X3.it.cells
            go_upto_region 11 with (first | (go_at_call 40; refine BH.it.mono ?_; clear BH; rintro e w4 ⟨da, dl, dc, rfl, R4, K4⟩; obtain ⟨k0', k1', k2', k3', k4', kf'⟩ := (X3.it.quiet K4.it).cells) | fail)
            have X5 := Aside.mk ((X3.it.quiet K4.it).put 3 (.slice da dl dc))
            simp only [List.set_cons_succ, List.set_cons_zero] at X5
            have KT : Aside (Keeps (fun k => k = bx) w4 (w4.setCell ⟨bx, 3, none⟩ (.slice da dl dc))) := ⟨(Keeps.refl _ _).setCell _ _ (fun _ => rfl)⟩
            clear k0 k1 k2 k3 k4 kf k0' k1' k2' k3' k4' kf'
            generalize w4.setCell ⟨bx, 3, none⟩ (.slice da dl dc) = W5 at X5 KT ⊢
            obtain ⟨k0, k1, k2, k3, k4, kf⟩ := X5.it.cells
            obtain ⟨r0, r1, r2, r3, r4, rf⟩ := X5.it.res
            go_wp2_with fail
            (try simp only [Exit.inBlock, Exit.then])
            obtain ⟨⟨y0, y1, y2, y3, y4⟩, KF⟩ := X5.it.fin (.int .i64 m.most) (.int .i64 m.last) (.slice ba bl bc) (.slice da dl dc) (.slice a3 n3 c3)
            have K5 := Aside.mk (keeps5 W5 (bx + 1) (.int .i64 m.most) (.int .i64 m.last) (.slice ba bl bc) (.slice da dl dc) (.slice a3 n3 c3))
            unfold set5 at y0 y1 y2 y3 y4 KF K5
            generalize (((((W5.setCell ⟨bx + 1, 0, none⟩ (.int .i64 m.most)).setCell ⟨bx + 1, 1, none⟩ (.int .i64 m.last)).setCell ⟨bx + 1, 2, none⟩ (.slice ba bl bc)).setCell ⟨bx + 1, 3, none⟩ (.slice da dl dc)).setCell ⟨bx + 1, 4, none⟩ (.slice a3 n3 c3)) = V at y0 y1 y2 y3 y4 KF K5 ⊢
            refine bodyPost_ret (v := .tuple #[.agg #[.int .i64 m.most, .int .i64 m.last, .slice ba bl bc, .slice da dl dc, .slice a3 n3 c3], .int .i64 0]) (by simp [results, Tryd.f29, go_sem, y0, y1, y2, y3, y4]) rfl ?_
            have ec : cd = 0 := by rw [← HCD.it, EA.it.2]; rfl
            rw [EA.it.1, ec]
            have k35 : Keeps (fun k => k = bx ∨ k = bx + 1) w3 V := (KS.it.mono (fun _ e _ => .inl e)).trans ((K4.it.mono (fun _ x _ => x.elim)).trans ((KT.it.mono (fun _ e _ => .inl e)).trans (K5.it.mono (fun _ e _ => .inr e))))
            have k45 : Keeps (fun k => k = bx ∨ k = bx + 1) w4 V := (KT.it.mono (fun _ e _ => .inl e)).trans (K5.it.mono (fun _ e _ => .inr e))
            exact ⟨_, _, _, _, _, _, _, _, _, rfl, ⟨⟨by show RdN _ _ _ (ks (tdel m.L t)); rw [EK.it]; exact X.it.row R3.it k35, X3.it.row R4.it k45, (H.it.step KF.it 9).o⟩⟩, KF⟩
        · have hkk : ((x : Int) == t) = false := by simp; omega
          have HT : Aside (t ∉ (ks m.L).take (j + 1)) := ⟨by
            rw [List.take_add_one, HX.it]
            simp only [Option.toList_some, List.mem_append, List.mem_singleton, not_or]
            exact ⟨ht.it, fun e => hk e.symm⟩⟩
          clear hk ht
          go_wp2_with fail
          go_roundw
          case rel => exact ⟨j + 1, by go_num, by omega, by trivial, HT⟩
          case measure => simp [natOf]; omega
end Go.Proofs.YtnmpnajmhfonhaaDoor
