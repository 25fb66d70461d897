/-
  culvertlaw03.removes
-/
import Derived.Test.YtnljgklmaljfjaaDoorWalked
import Derived.Test.YtnljgklmaljfjaaDoorFifoRint
namespace Go.Proofs.YtnljgklmaljfjaaDoor
open Go.RowKit Fint

/-- what the closure of removes has captured, when it has been asked j times -/
structure Asked (n b0 : Nat) (rt rw : Int) (s : Value) (q : Things) (ws : Value) (ns : List Int) (j : Nat) (W : World) : Prop where
  asked : Cells W (b0 + 3) 3 [.int .i64 j]
  queue : Cells W b0 35 [.int .i64 rt, .int .i64 rw, s]
  right : Cells W (b0 + 4) 4 [.bool true]
  outs : Cells W (b0 + 1) 39 [ws]
  reads : ReadsK 2 W s q.length (flat q)
  own : ∀ k, s.ownBlock = some k → k < b0
  wreads : ReadsOff (fun k => b0 ≤ k) W ws (iv ns)
  size : n = b0 + 5
  len : ns.length ≤ maxLen

theorem Asked.later {n b0 : Nat} {rt rw : Int} {s : Value} {q : Things} {ws : Value} {ns : List Int} {j : Nat} {W W' : World} (h : Asked n b0 rt rw s q ws ns j W) (hk : Keeps (fun k => n ≤ k) W W') : Asked n b0 rt rw s q ws ns j W' := by
  have hn := h.size
  refine ⟨h.asked.later hk (by omega), h.queue.later hk (by omega), h.right.later hk (by omega), h.outs.later hk (by omega), h.reads.later hk (fun b hb => by have := h.own b hb; omega), h.own, ?_, h.size, h.len⟩
  have hb := h.queue.lt
  exact (h.wreads.later (S := fun k => b0 ≤ k) (hk.mono (fun k hk _ => by omega))).mono (fun k hk _ => .inl hk)

theorem asked_ok (n b0 : Nat) (rt rw : Int) (s : Value) (q : Things) (ws : Value) (ns : List Int) (j : Nat) (x : Int × Nat) (W : World) (hx : q[j]? = some x) (h : Asked n b0 rt rw s q ws ns j W) (hq : q.length ≤ 4398046511103) :
    Calls Tryd.prog 48 #[.int .i64 x.1, .pointer (some ⟨b0 + 3, 0, none⟩), .pointer (some ⟨b0, 0, none⟩), .pointer (some ⟨b0 + 4, 0, none⟩), .pointer (some ⟨b0 + 1, 0, none⟩)] W fun e W' => e = .returned (.bool (outB ns x)) ∧
      Aside (Asked n b0 rt rw s q ws ns (j + 1) W') ∧ Aside (Keeps (fun k => k = b0 + 3) W W') := by
  have HA : Aside _ := ⟨h⟩
  obtain ⟨a, c, rfl, hlc, hcm, hc⟩ := h.reads.at
  obtain ⟨g, o, rfl, y0, y1⟩ := hc j x hx
  have hjl : j < q.length := (List.getElem?_eq_some_iff.1 hx).1
  have hg := h.own g rfl
  obtain ⟨sa, sc, hws, _⟩ := id h.wreads
  rw [iv_length] at hws
  have c0 : W.cell? ⟨b0 + 3, 0, none⟩ = some (.int .i64 j) := by rw [h.asked.cell]; rfl
  have f0 := h.asked.frozen 0
  have c1 : W.cell? ⟨b0, 2, none⟩ = some (.slice (some ⟨g, o, none⟩) q.length c) := by rw [h.queue.cell]; rfl
  have c2 : W.cell? ⟨b0 + 1, 0, none⟩ = some ws := by rw [h.outs.cell]; rfl
  have IN : Aside _ := ⟨fun w2 (k : Keeps (fun k => k = b0 + 3) W w2) => refIn_ok w2 ws ns x.1 ((h.wreads.later (S := fun k => b0 ≤ k) (k.mono (fun k hk _ => by omega))).mono (fun _ x _ => x.elim)) h.len⟩
  obtain ⟨N, hN⟩ : ∃ N, N = q.length := ⟨_, rfl⟩
  rw [← hN] at c1 hjl hq
  subst hws
  clear h hc hlc hcm hx y1 hN
  go_enter Tryd.func48, Tryd.ntmps48
  go_wp2_with fail
  all_goals first
    | (exfalso; omega)
    | skip
  refine (IN.it _ ((Keeps.refl _ W).setCell ⟨b0 + 3, 0, none⟩ (.int .i64 ((j : Int) + 1)) (fun _ => rfl))).mono ?_
  rintro e w2 ⟨rfl, hw2⟩
  have HW : Aside _ := ⟨hw2⟩
  clear hw2
  go_wp2
  go_ret
  have k2 : Keeps (fun k => k = b0 + 3) W w2 := by rw [HW.it]; exact (Keeps.refl _ W).setCell _ _ (fun _ => rfl)
  refine ⟨rfl, ⟨⟨?_, HA.it.queue.later k2 (by omega), HA.it.right.later k2 (by omega), HA.it.outs.later k2 (by omega), HA.it.reads.later k2 (fun b hb => by have := HA.it.own b hb; omega), HA.it.own, ?_, HA.it.size, HA.it.len⟩⟩, ⟨k2⟩⟩
  · rw [HW.it]
    exact HA.it.asked.setCell 0 (.int .i64 ((j : Int) + 1))
  · exact (HA.it.wreads.later (S := fun k => b0 ≤ k) (k2.mono (fun k hk _ => by omega))).mono (fun k hk _ => .inl hk)

/-- a queue of the program and the document's beside it: i owns the one's memory, j the other's -/
structure Both (own : Nat → Nat) (i j : Nat) (w : World) (p rt rw : Nat) (s : Value) (q : Things) : Prop where
  fifo : FifoO own i w p rt rw q
  reads : ReadsK 2 w s q.length (flat q)
  refo : ∀ k, s.ownBlock = some k → own k = j ∧ k < w.heap.size

set_option maxHeartbeats 2000000 in
theorem removes_ok {own : Nat → Nat} {i j p rt rw : Nat} {q : Things} {s : Value} (w : World) (h : Both own i j w p rt rw s q) (hij : i ≠ j) (hb : q.length ≤ 4398046511103) (ws : Value) (ns : List Int) (hw : ReadsOff (fun k => own k = i) w ws (iv ns)) (hwn : ns.length ≤ maxLen) :
    Calls Tryd.prog 39 #[.pointer (some ⟨p, 0, none⟩), .agg #[.int .i64 rt, .int .i64 rw, s], ws] w fun e w' => ∃ s' own', e = .returned (.tuple #[.agg #[.int .i64 rt, .int .i64 rw, s'], .bool true]) ∧
      Aside (Both own' i j w' p rt rw s' (restQ ns q)) ∧ Aside (∀ k, k < w.heap.size → own' k = own k) ∧ Aside (Keeps (fun k => own k = i) w w') := by
  obtain ⟨a, c, rfl, hlc, hcm, hc⟩ := h.reads.at
  obtain ⟨sa, sc, rfl, hsl, hsc⟩ := id hw
  obtain ⟨v, first, gone, h1, h2, h3, h4⟩ := h.fifo
  rw [iv_length] at hsl hw ⊢
  obtain ⟨N, hN⟩ : ∃ N, N = q.length := ⟨_, rfl⟩
  obtain ⟨M, hM⟩ : ∃ M, M = ns.length := ⟨_, rfl⟩
  have hb2 := hb
  rw [← hN] at hb2 ⊢
  rw [← hM] at hsl hw ⊢
  obtain ⟨W0, hW0⟩ : ∃ W0, W0 = ((((w.alloc (.cells #[.int .i64 rt, .int .i64 rw, .slice a N c] 35)).alloc (.cells #[.slice sa M sc] 39)).alloc (.cells #[.int .i64 0, .int .i64 0, .slice none 0 0] 35)).alloc (.cells #[.int .i64 0] 3)).alloc (.cells #[.bool true] 4) := ⟨_, rfl⟩
  have K0 : Aside (Keeps Nowhere w W0) := ⟨by rw [hW0]; exact (((((Keeps.refl _ _).alloc _).alloc _).alloc _).alloc _).alloc _⟩
  have SZ : Aside (W0.heap.size = w.heap.size + 5) := ⟨by rw [hW0]; simp⟩
  have AS : Aside (Asked (w.heap.size + 5) w.heap.size rt rw (.slice a N c) q (.slice sa M sc) ns 0 W0 ∧ Cells W0 (w.heap.size + 2) 35 [.int .i64 0, .int .i64 0, .slice none 0 0]) := ⟨by
    have x1 := Cells.new w 35 [.int .i64 rt, .int .i64 rw, .slice a N c]
    have x2 := Cells.new (w.alloc (.cells #[.int .i64 rt, .int .i64 rw, .slice a N c] 35)) 39 [.slice sa M sc]
    have x3 := Cells.new ((w.alloc (.cells #[.int .i64 rt, .int .i64 rw, .slice a N c] 35)).alloc (.cells #[.slice sa M sc] 39)) 35 [.int .i64 0, .int .i64 0, .slice none 0 0]
    have x4 := Cells.new (((w.alloc (.cells #[.int .i64 rt, .int .i64 rw, .slice a N c] 35)).alloc (.cells #[.slice sa M sc] 39)).alloc (.cells #[.int .i64 0, .int .i64 0, .slice none 0 0] 35)) 3 [.int .i64 0]
    have x5 := Cells.new ((((w.alloc (.cells #[.int .i64 rt, .int .i64 rw, .slice a N c] 35)).alloc (.cells #[.slice sa M sc] 39)).alloc (.cells #[.int .i64 0, .int .i64 0, .slice none 0 0] 35)).alloc (.cells #[.int .i64 0] 3)) 4 [.bool true]
    simp only [World.size_alloc] at x2 x3 x4 x5
    have y1 := x1.later (S := Nowhere) (((((Keeps.refl _ _).alloc (.cells #[.slice sa M sc] 39)).alloc (.cells #[.int .i64 0, .int .i64 0, .slice none 0 0] 35)).alloc (.cells #[.int .i64 0] 3)).alloc (.cells #[.bool true] 4)) (fun x => x)
    have y2 := x2.later (S := Nowhere) ((((Keeps.refl _ _).alloc (.cells #[.int .i64 0, .int .i64 0, .slice none 0 0] 35)).alloc (.cells #[.int .i64 0] 3)).alloc (.cells #[.bool true] 4)) (fun x => x)
    have y3 := x3.later (S := Nowhere) (((Keeps.refl _ _).alloc (.cells #[.int .i64 0] 3)).alloc (.cells #[.bool true] 4)) (fun x => x)
    have y4 := x4.later (S := Nowhere) ((Keeps.refl _ _).alloc (.cells #[.bool true] 4)) (fun x => x)
    have r1 : ReadsK 2 W0 (.slice a N c) q.length (flat q) := by rw [hN]; exact h.reads.later K0.it (fun _ _ x => x)
    rw [hW0] at r1 K0 ⊢
    refine ⟨⟨y4, y1, x5, y2, r1, fun k hk => ?_, ?_, rfl, hwn⟩, y3⟩
    · rw [hN] at hk
      exact (h.refo k hk).2
    · have r2 := ((hw.mono (S' := fun k => w.heap.size ≤ k) (fun k hk hlt => by omega)).later (K0.it.any (S := fun k => w.heap.size ≤ k)))
      exact r2.mono (fun k hk _ => .inl hk)⟩
  have RM : Aside _ := ⟨remove_in (h1.later K0.it (fun _ _ x => x)) h2 (by simp only [by']; omega) (.pointer (some ⟨w.heap.size + 3, 0, none⟩)) (.pointer (some ⟨w.heap.size, 0, none⟩)) (.pointer (some ⟨w.heap.size + 4, 0, none⟩)) (.pointer (some ⟨w.heap.size + 1, 0, none⟩)) (outB ns)
    (fun j W => Asked (w.heap.size + 5) w.heap.size rt rw (.slice a N c) q (.slice sa M sc) ns j W) (fun k => k = w.heap.size + 3) (fun j x W hx hA => asked_ok _ _ _ _ _ q _ ns j x W hx hA hb)
    (fun j W W' hA hk => hA.later (by rw [← SZ.it]; exact hk)) (fun k hk e => by have := h1.lt k hk; omega) (fun k e => by rw [SZ.it, e]; omega) AS.it.1⟩
  have HB : Aside _ := ⟨hb⟩
  have HW : Aside _ := ⟨hw⟩
  have HWN : Aside _ := ⟨hwn⟩
  have HRD : Aside _ := ⟨h.reads⟩
  have H1 : Aside _ := ⟨h1⟩
  have H3 : Aside _ := ⟨h3⟩
  have H4 : Aside _ := ⟨h4⟩
  have HN : Aside _ := ⟨hN⟩
  have HM : Aside _ := ⟨hM⟩
  have HR : Aside _ := ⟨h.refo⟩
  clear hc hsc hcm hb h hw h1 h2 h3 h4 hN hM hwn
  go_enter Tryd.func39, Tryd.ntmps39
  go_wp2_with fail
  rw [← hW0]
  clear hW0
  refine RM.it.mono ?_
  rintro e w2 ⟨rfl, v', f', g', F2, hf2, hv2, k2, hA⟩
  have kw : Keeps (fun k => own k = i) w w2 := K0.it.any.next k2.it (fun k hk hlt => by
    rcases hk with (rfl | hk) | rfl
    · exact H3.it
    · exact H4.it k hk
    · omega)
  have rs : ReadsK 2 w2 (.slice a N c) q.length (flat q) := by
    rw [HN.it]
    exact HRD.it.later kw (fun b hb e => hij (e.symm.trans (HR.it b hb).1))
  have rw2 : ReadsOff Nowhere w2 (.slice sa M sc) (iv ns) := (HW.it.later kw).mono (fun _ x _ => x.elim)
  obtain ⟨w1, hA1, hA2⟩ := hA.it
  have nOwn : ∀ k, w.heap.size ≤ k → ¬ Fint.Own p v k := fun k hk ho => by have := H1.it.lt k ho; omega
  have c3 := hA1.asked.later hA2 (nOwn _ (by omega))
  have c0 := hA1.queue.later hA2 (nOwn _ (by omega))
  have c4 := hA1.right.later hA2 (nOwn _ (by omega))
  have c1 := hA1.outs.later hA2 (nOwn _ (by omega))
  have c2 : Cells w2 (w.heap.size + 2) 35 [.int .i64 0, .int .i64 0, .slice none 0 0] := AS.it.2.later k2.it (fun e => by
    rcases e with e | e
    · exact nOwn _ (by omega) e
    · omega)
  have KW : Aside _ := ⟨kw⟩
  have CC : Aside _ := ⟨And.intro c0 (And.intro c1 (And.intro c2 (And.intro c3 c4)))⟩
  have d00 : w2.cell? ⟨w.heap.size, 0, none⟩ = some (.int .i64 rt) := by rw [c0.cell]; rfl
  have d01 : w2.cell? ⟨w.heap.size, 1, none⟩ = some (.int .i64 rw) := by rw [c0.cell]; rfl
  have d02 : w2.cell? ⟨w.heap.size, 2, none⟩ = some (.slice a N c) := by rw [c0.cell]; rfl
  have d1 : w2.cell? ⟨w.heap.size + 1, 0, none⟩ = some (.slice sa M sc) := by rw [c1.cell]; rfl
  have SZ2 : Aside (w.heap.size + 5 ≤ w2.heap.size) := ⟨by rw [← SZ.it]; exact k2.it.size⟩
  have rr := refRemove_ok w2 rt rw a c q (.slice sa M sc) ns (by rw [HN.it] at rs; exact rs) rw2 HWN.it (by have := HB.it; omega)
  rw [← HN.it] at rr
  have RR := hide rr
  clear rr rs rw2 hA1 hA2 hA c0 c1 c2 c3 c4 kw k2 nOwn
  go_wp2_with fail
  refine RR.out.mono ?_
  rintro e w3 ⟨s', rfl, ans⟩
  obtain ⟨g0, g1, g2, hs'⟩ : ∃ a l c, s' = .slice a l c := by
    obtain ⟨_, a, c, e, _⟩ := ans.it.reads
    exact ⟨_, _, _, e⟩
  subst hs'
  obtain ⟨c0, c1, c2, c3, c4⟩ := CC.it
  have e2 := c2.later ans.it.keeps (fun x => x)
  have E2 : Aside _ := ⟨e2⟩
  have z3 := c3.later ans.it.keeps (fun x => x)
  have z4 := c4.later ans.it.keeps (fun x => x)
  have z0 := c0.later ans.it.keeps (fun x => x)
  have y3 : w3.cell? ⟨w.heap.size + 3, 0, none⟩ = some (.int .i64 N) := by rw [z3.cell, HN.it]; rfl
  have y4 : w3.cell? ⟨w.heap.size + 4, 0, none⟩ = some (.bool true) := by rw [z4.cell]; rfl
  have y0 : w3.cell? ⟨w.heap.size, 2, none⟩ = some (.slice a N c) := by rw [z0.cell]; rfl
  have x0 : w3.cell? ⟨w.heap.size + 2, 0, none⟩ = some (.int .i64 0) := by rw [e2.cell]; rfl
  have x1 : w3.cell? ⟨w.heap.size + 2, 1, none⟩ = some (.int .i64 0) := by rw [e2.cell]; rfl
  have x2 : w3.cell? ⟨w.heap.size + 2, 2, none⟩ = some (.slice none 0 0) := by rw [e2.cell]; rfl
  have f0 := e2.frozen 0
  have f1 := e2.frozen 1
  have f2 := e2.frozen 2
  have SZ3 : Aside (w.heap.size + 5 ≤ w3.heap.size) := ⟨Nat.le_trans SZ2.it ans.it.keeps.size⟩
  obtain ⟨W4, hW4⟩ : ∃ W4, W4 = w3.alloc (.cells #[.int .i64 rt, .int .i64 rw, .slice g0 g1 g2] 35) := ⟨_, rfl⟩
  clear c0 c1 c2 c3 c4 e2 z3 z4 z0 d00 d01 d02 d1
  go_upto_region 5 with fail
  rw [← hW4]
  have K4 : Aside (Keeps Nowhere w3 W4) := ⟨by rw [hW4]; exact (Keeps.refl _ _).alloc _⟩
  have N4 : Cells W4 w3.heap.size 35 [.int .i64 rt, .int .i64 rw, .slice g0 g1 g2] := by rw [hW4]; exact Cells.new w3 _ _
  clear hW4
  have v0 : W4.cell? ⟨w3.heap.size, 0, none⟩ = some (.int .i64 rt) := by rw [N4.cell]; rfl
  have v1 : W4.cell? ⟨w3.heap.size, 1, none⟩ = some (.int .i64 rw) := by rw [N4.cell]; rfl
  have v2 : W4.cell? ⟨w3.heap.size, 2, none⟩ = some (.slice g0 g1 g2) := by rw [N4.cell]; rfl
  have old : ∀ ad u, w3.cell? ad = some u → W4.cell? ad = some u := fun ad u hu => by rw [K4.it.bel.cell (World.block_lt_of_cell? w3 _ hu)]; exact hu
  have y3' := old _ _ y3
  have y4' := old _ _ y4
  have y0' := old _ _ y0
  have q2 := E2.it.later K4.it (fun x => x)
  have x0' : W4.cell? ⟨w.heap.size + 2, 0, none⟩ = some (.int .i64 0) := by rw [q2.cell]; rfl
  have x1' : W4.cell? ⟨w.heap.size + 2, 1, none⟩ = some (.int .i64 0) := by rw [q2.cell]; rfl
  have x2' : W4.cell? ⟨w.heap.size + 2, 2, none⟩ = some (.slice none 0 0) := by rw [q2.cell]; rfl
  have f0' := q2.frozen 0
  have f1' := q2.frozen 1
  have f2' := q2.frozen 2
  have Q2 : Aside _ := ⟨q2⟩
  have hgt : Aside (goneN ns q = q.countP (outB ns)) := ⟨rfl⟩
  obtain ⟨t, ht⟩ : ∃ t, t = q.countP (outB ns) := ⟨_, rfl⟩
  have hg2 : goneN ns q = t := ht.symm
  rw [← ht, hg2]
  clear old N4 y3 y4 y0 q2 x0 x1 x2 f0 f1 f2 ht hg2 hgt
  go_wp2
  obtain ⟨W, hW⟩ : ∃ W, W = ((W4.setCell ⟨w.heap.size + 2, 0, none⟩ (.int .i64 rt)).setCell ⟨w.heap.size + 2, 1, none⟩ (.int .i64 rw)).setCell ⟨w.heap.size + 2, 2, none⟩ (.slice g0 g1 g2) := ⟨_, rfl⟩
  have ew : ((W4.setCell ⟨w.heap.size + 1 + 1, 0, none⟩ (.int .i64 rt)).setCell ⟨w.heap.size + 1 + 1, 1, none⟩ (.int .i64 rw)).setCell ⟨w.heap.size + 1 + 1, 2, none⟩ (.slice g0 g1 g2) = W := hW.symm
  rw [ew]
  have hC : Cells W (w.heap.size + 1 + 1) 35 [.int .i64 rt, .int .i64 rw, .slice g0 g1 g2] := by
    rw [hW]
    exact ((Q2.it.setCell 0 (.int .i64 rt)).setCell 1 (.int .i64 rw)).setCell 2 (.slice g0 g1 g2)
  have r0 : W.cell? ⟨w.heap.size + 1 + 1, 0, none⟩ = some (.int .i64 rt) := by rw [hC.cell]; rfl
  have r1 : W.cell? ⟨w.heap.size + 1 + 1, 1, none⟩ = some (.int .i64 rw) := by rw [hC.cell]; rfl
  have r2 : W.cell? ⟨w.heap.size + 1 + 1, 2, none⟩ = some (.slice g0 g1 g2) := by rw [hC.cell]; rfl
  refine bodyPost_ret (v := .tuple #[.agg #[.int .i64 rt, .int .i64 rw, .slice g0 g1 g2], .bool true]) (by simp [results, Tryd.results39, go_sem, r0, r1, r2]) rfl ?_
  have kW : Keeps (fun k => k = w.heap.size + 2) w3 W := by
    rw [hW]
    exact (((K4.it.any (S := fun k => k = w.heap.size + 2)).setCell ⟨w.heap.size + 2, 0, none⟩ _ (fun _ => rfl)).setCell ⟨w.heap.size + 2, 1, none⟩ _ (fun _ => rfl)).setCell ⟨w.heap.size + 2, 2, none⟩ _ (fun _ => rfl)
  have kA : Keeps (fun k => k = w.heap.size + 2) w2 W := (ans.it.keeps.any (S := fun k => k = w.heap.size + 2)).trans kW
  have old : ∀ k, k < w.heap.size → give (give own w.heap.size i) w2.heap.size j k = own k := fun k hk => by rw [give_old (by have := SZ2.it; omega), give_old hk]
  have vk : ∀ k, v'.ownBlock = some k → k ≠ w.heap.size + 2 ∧ give (give own w.heap.size i) w2.heap.size j k = i := by
    intro k hk
    rcases hv2.it k hk with e | e
    · have := H1.it.lt k (.inr e)
      exact ⟨by omega, (old k this).trans (H4.it k e)⟩
    · rw [SZ.it] at e
      exact ⟨by omega, (give_old (F2.it.lt k (.inr hk))).trans (give_new (by omega))⟩
  have hpl := H1.it.lt p (.inl rfl)
  refine ⟨_, give (give own w.heap.size i) w2.heap.size j, rfl, ⟨⟨⟨v', f', g', F2.it.later kA ?_, hf2.it, (old p hpl).trans H3.it, fun k hk => (vk k hk).2⟩, ?_, fun k hk => ?_⟩⟩, ⟨old⟩, ⟨?_⟩⟩
  · rintro k (rfl | hk) e
    · omega
    · exact (vk k hk).1 e
  · exact ans.it.reads.later kW (fun b hb e => by
      rcases ans.it.own b hb with e' | e'
      · rw [HN.it] at e'
        have := (HR.it b e').2
        omega
      · have := SZ2.it
        omega)
  · rcases ans.it.own k hk with e' | e'
    · rw [HN.it] at e'
      have := HR.it k e'
      exact ⟨(old k this.2).trans this.1, Nat.lt_of_lt_of_le (ans.it.lt k hk) kW.size⟩
    · exact ⟨give_new e', Nat.lt_of_lt_of_le (ans.it.lt k hk) kW.size⟩
  · exact (KW.it.next (ans.it.keeps.any (S := fun k => k = w.heap.size + 2)) (fun k hk hlt => by omega)).next kW (fun k hk hlt => by omega)
end Go.Proofs.YtnljgklmaljfjaaDoor
