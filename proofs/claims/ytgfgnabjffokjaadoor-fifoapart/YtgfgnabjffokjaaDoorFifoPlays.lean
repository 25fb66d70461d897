/-
  FifoPlays
-/
import Derived.Test.YtgfgnabjffokjaaDoorFifoOps
import Derived.Test.YtgfgnabjffokjaaDoorWakes
namespace Go.Proofs.YtgfgnabjffokjaaDoor
open Go.RowKit Fint

/-- between two calls of a play -/
structure PlayAt (w00 : World) (own : Nat → Nat) (i j : Nat) (wr : World) (p rt rw bq : Nat) (a : Option Addr) (c : Nat) (q : Things) : Prop where
  both : Both own i j wr p rt rw (.slice a q.length c) q
  ground : Ground w00.heap.size w00 own wr
  box : CellsO own 0 wr bq 33 [.int .i64 rt, .int .i64 rw, .slice a q.length c]
  new : w00.heap.size ≤ bq

theorem set3_cell {w : World} {ad : Addr} {u : Value} (n : Nat) (x y z : Value) (hn : ad.block ≠ n) (h : w.cell? ad = some u) : (((w.setCell ⟨n, 0, none⟩ x).setCell ⟨n, 1, none⟩ y).setCell ⟨n, 2, none⟩ z).cell? ad = some u := by
  rw [World.cell?_of_block (Below.heap_setCell _ _ _ _ hn), World.cell?_of_block (Below.heap_setCell _ _ _ _ hn), World.cell?_of_block (Below.heap_setCell _ _ _ _ hn)]
  exact h
theorem readsK_nil (w : World) : ReadsK 2 w (.slice none 0 0) 0 [] := ⟨rfl, none, 0, rfl, Nat.le_refl _, Nat.zero_le _, fun _ => rfl, fun j u hj => by simp at hj⟩

theorem play_step {A : Nat → Addr} {own : Nat → Nat} {i j p rt rw bq : Nat} {q : Things} {a : Option Addr} {c : Nat} {w00 wr : World} (hs : Sents 133 codeVars A w00) (h : PlayAt w00 own i j wr p rt rw bq a c q) (hij : i ≠ j) (hi : i ≠ 0) (hj : j ≠ 0) (hb : q.length ≤ 4398046511103)
    (o : OpV3) (ws : Value) (hwr : ReadsOff Nowhere w00 ws (iv o.out)) (hwn : o.out.length ≤ maxLen) (W : World) (hk : Keeps Nowhere wr W) :
    Calls Tryd.prog 13 #[.pointer (some ⟨p, 0, none⟩), .agg #[.int .i64 rt, .int .i64 rw, .slice a q.length c], .agg #[.int .i64 o.kind, .int .i64 o.v, .int .i64 o.w, ws]] W fun e w6 => ∃ n0 n2 own', e = .returned (.tuple #[.agg #[.int .i64 rt, .int .i64 rw, .slice n0 (nextQ rt rw q o).length n2], .bool true]) ∧
      Aside (Both own' i j w6 p rt rw (.slice n0 (nextQ rt rw q o).length n2) (nextQ rt rw q o)) ∧ Aside (Ground w00.heap.size w00 own' w6) ∧ Aside (CellsO own' 0 w6 bq 33 [.int .i64 rt, .int .i64 rw, .slice a q.length c]) ∧ Aside (Since own i wr own' w6) ∧
      Aside (∀ g e xs, wr.heap.size ≤ g → Cells W g e xs → CellsO own' 0 w6 g e xs) := by
  have g0 : Ground w00.heap.size w00 (give own wr.heap.size 0) W := (h.ground.quiet hk).give _ _ h.ground.size
  refine (step_ok w00 W hs g0 (h.both.pair.quiet hk 0).both hij hi hj hb o ws (g0.reads hwr rfl hi) hwn).mono ?_
  rintro e w6 ⟨s', own', rfl, bo, si⟩
  obtain ⟨_, n0, n2, he, _⟩ := id bo.it.reads
  subst he
  have si' : Since own i wr own' w6 := ⟨fun k hlt => (si.it.agree k (Nat.lt_of_lt_of_le hlt hk.size)).trans (give_old hlt), hk.any.next si.it.keeps (fun k e hlt => by rwa [give_old hlt] at e)⟩
  refine ⟨n0, n2, own', rfl, bo, ⟨Ground.since h.ground si' hi⟩, ⟨⟨h.box.1.later si'.keeps (fun e => hi (e.symm.trans h.box.2)), (si'.agree _ h.box.1.lt).trans h.box.2⟩⟩, ⟨si'⟩, ⟨fun g e xs hg hc => ⟨hc.later si.it.keeps (fun e' => ?_), (si.it.agree g hc.lt).trans (give_new hg)⟩⟩⟩
  rw [give_new hg] at e'
  exact hi e'.symm
/-- the document's queue is put into its box -/
theorem PlayAt.next {own own' : Nat → Nat} {i j p rt rw bq : Nat} {q' : Things} {n0 : Option Addr} {n2 : Nat} {xs : List Value} {w00 w6 W : World} (hi : i ≠ 0) (hj : j ≠ 0) (bo : Both own' i j w6 p rt rw (.slice n0 q'.length n2) q') (gr : Ground w00.heap.size w00 own' w6) (bx : CellsO own' 0 w6 bq 33 xs) (hb : w00.heap.size ≤ bq)
    (hk : Keeps (fun k => own' k = 0 ∧ w00.heap.size ≤ k) w6 W) (hown : ∀ k, k < w6.heap.size → own k = own' k) (hC : Cells W bq 33 [.int .i64 rt, .int .i64 rw, .slice n0 q'.length n2]) : PlayAt w00 own i j W p rt rw bq n0 n2 q' := by
  have p1 := bo.pair.nobody hi hj (hk.mono (fun k e _ => e.1))
  have hsz := bx.1.lt
  obtain ⟨v', f', g', h1', h2', h3', h4'⟩ := bo.fifo
  refine ⟨⟨⟨v', f', g', h1'.later hk ?_, h2', (hown p (h1'.lt p (.inl rfl))).trans h3', fun k hk' => (hown k (h1'.lt k (.inr hk'))).trans (h4' k hk')⟩, p1.reads, fun k e => ⟨(hown k (bo.refo k e).2).trans (bo.refo k e).1, (p1.refo k e).2⟩⟩, ⟨fun k hlt => (hown k (Nat.lt_of_lt_of_le hlt gr.size)).trans (gr.zero k hlt), below_next gr.bel hk gr.size (fun k e _ => e.2), Nat.le_trans gr.size hk.size⟩, ⟨hC, (hown bq hsz).trans bx.2⟩, hb⟩
  rintro k (rfl | e) e'
  · exact hi (h3'.symm.trans e'.1)
  · exact hi ((h4' k e).symm.trans e'.1)

set_option maxHeartbeats 4000000 in
theorem fifoPlays_bad {A : Nat → Addr} (t r : Int) (script : Value) (ops : List OpV3) (w : World) (hs : Sents 133 codeVars A w) (ho : OpsAt3 w script ops) (hbad : t < 0 ∨ r < 0) :
    Calls Tryd.prog 3 #[.agg #[.int .i64 t, .int .i64 r], script] w fun e w' => e = .returned (.bool true) ∧ Below w.heap.size w w' := by
  obtain ⟨⟨a, cap, rfl, hlc, hm, _⟩, hlen⟩ := ho
  obtain ⟨M, hM⟩ : ∃ M, M = ops.length := ⟨_, rfl⟩
  rw [← hM] at hlc hlen ⊢
  clear hM
  obtain ⟨W0, hW0⟩ : ∃ W0, W0 = w.alloc (.cells #[.int .i64 t, .int .i64 r] 23) := ⟨_, rfl⟩
  have K0 : Aside (Keeps Nowhere w W0) := ⟨by rw [hW0]; exact (Keeps.refl _ _).alloc _⟩
  have C0 : Aside (Cells W0 w.heap.size 23 [.int .i64 t, .int .i64 r]) := ⟨by rw [hW0]; exact Cells.new w _ _⟩
  have HS : Aside (Sents 133 codeVars A W0) := ⟨hs.later K0.it.bel⟩
  clear hs
  go_enter Tryd.func3, Tryd.ntmps3
  go_wp2_with fail
  rw [← hW0]
  clear hW0
  refine (wakes_ok W0 HS.it).mono ?_
  rintro e w1 ⟨rfl, k1⟩
  have K1 : Aside (Keeps Nowhere W0 w1) := ⟨Keeps.ofBelow k1.it⟩
  have c1 := C0.it.later K1.it (fun x => x)
  have d0 : w1.cell? ⟨w.heap.size, 0, none⟩ = some (.int .i64 t) := by rw [c1.cell]; rfl
  have d1 : w1.cell? ⟨w.heap.size, 1, none⟩ = some (.int .i64 r) := by rw [c1.cell]; rfl
  have C1 : Aside _ := ⟨c1⟩
  have HS1 : Aside _ := ⟨HS.it.later k1.it⟩
  clear c1 k1
  go_wp2_with fail
  refine (new_bad w1 t r _ (HS1.it.cell 1 _ rfl) hbad).mono ?_
  rintro e w2 ⟨rfl, k2⟩
  have c2 := C1.it.later k2 (fun x => x)
  have e0 : w2.cell? ⟨w.heap.size, 0, none⟩ = some (.int .i64 t) := by rw [c2.cell]; rfl
  have e1 : w2.cell? ⟨w.heap.size, 1, none⟩ = some (.int .i64 r) := by rw [c2.cell]; rfl
  have K2 : Aside _ := ⟨k2⟩
  clear c2 d0 d1 k2
  go_wp2_with fail
  refine (refNew_bad w2 t r hbad).mono ?_
  rintro e w3 ⟨rfl, k3⟩
  have K3 : Aside (Keeps Nowhere W0 w3) := ⟨(K1.it.trans K2.it).trans k3.it⟩
  clear e0 e1 k3
  go_upto_region 5 with fail
  obtain ⟨w4, hw4⟩ : ∃ w4, w4 = w3.alloc (.cells #[.int .i64 0, .int .i64 0, .slice none 0 0] 33) := ⟨_, rfl⟩
  rw [← hw4]
  have K4 : Aside (Keeps Nowhere W0 w4) := ⟨by rw [hw4]; exact K3.it.alloc _⟩
  have HS4 : Aside _ := ⟨HS.it.later K4.it.bel⟩
  clear hw4 K3
  go_wp2_with fail
  refine (code_of HS4.it (Coded.mk 1 2 (by decide) (by decide) rfl)).mono ?_
  rintro e w5 ⟨rfl, rfl⟩
  go_wp2_with fail
  refine wp_loop_rounds 1 ?_
  rw [rounds_succ]
  by_cases hM0 : M = 0
  · subst hM0
    go_wp2_with fail
    go_quiet (fail)
    go_wp2
    go_ret
    exact ⟨rfl, ((K0.it.trans K4.it).drewN _).bel⟩
  · have hM1 : (0 : Int) < M := by omega
    go_wp2_with fail
    go_quiet (fail)
    go_wp2
    go_ret
    exact ⟨rfl, ((K0.it.trans K4.it).drewN _).bel⟩

set_option maxHeartbeats 8000000 in
theorem fifoPlays_good {A : Nat → Addr} (rt rw : Nat) (hrt : rt ≤ 9223372036854775807) (hrw : rw ≤ 9223372036854775807) (script : Value) (ops : List OpV3) (w : World) (hs : Sents 133 codeVars A w) (ho : OpsAt3 w script ops) :
    Calls Tryd.prog 3 #[.agg #[.int .i64 rt, .int .i64 rw], script] w fun e w' => e = .returned (.bool true) ∧ Below w.heap.size w w' := by
  obtain ⟨⟨sa, scap, rfl, hlc, hm, hop⟩, hlen⟩ := ho
  obtain ⟨M, hM⟩ : ∃ M, M = ops.length := ⟨_, rfl⟩
  rw [← hM] at hlc hlen ⊢
  have HM : Aside _ := ⟨hM⟩
  have HOP : Aside _ := ⟨hop⟩
  clear hM hop hm
  obtain ⟨W0, hW0⟩ : ∃ W0, W0 = w.alloc (.cells #[.int .i64 rt, .int .i64 rw] 23) := ⟨_, rfl⟩
  have K0 : Aside (Keeps Nowhere w W0) := ⟨by rw [hW0]; exact (Keeps.refl _ _).alloc _⟩
  have C0 : Aside (Cells W0 w.heap.size 23 [.int .i64 rt, .int .i64 rw]) := ⟨by rw [hW0]; exact Cells.new w _ _⟩
  have HS0 : Aside _ := ⟨hs⟩
  have HS : Aside (Sents 133 codeVars A W0) := ⟨hs.later K0.it.bel⟩
  clear hs
  go_enter Tryd.func3, Tryd.ntmps3
  go_wp2_with fail
  rw [← hW0]
  clear hW0
  refine (wakes_ok W0 HS.it).mono ?_
  rintro e w1 ⟨rfl, k1⟩
  have K1 : Aside (Keeps Nowhere W0 w1) := ⟨Keeps.ofBelow k1.it⟩
  have c1 := C0.it.later K1.it (fun x => x)
  have d0 : w1.cell? ⟨w.heap.size, 0, none⟩ = some (.int .i64 rt) := by rw [c1.cell]; rfl
  have d1 : w1.cell? ⟨w.heap.size, 1, none⟩ = some (.int .i64 rw) := by rw [c1.cell]; rfl
  have C1 : Aside _ := ⟨c1⟩
  clear c1 k1
  go_wp2_with fail
  refine (new_o w1 rt rw hrt hrw (fun _ => 0) 1).mono ?_
  rintro e w2 ⟨p, rfl, f2, k2⟩
  have c2 := C1.it.later k2.it (fun x => x)
  have e0 : w2.cell? ⟨w.heap.size, 0, none⟩ = some (.int .i64 rt) := by rw [c2.cell]; rfl
  have e1 : w2.cell? ⟨w.heap.size, 1, none⟩ = some (.int .i64 rw) := by rw [c2.cell]; rfl
  clear c2 d0 d1
  go_wp2_with fail
  refine (refNew_good w2 rt rw).mono ?_
  rintro e w3 ⟨rfl, k3⟩
  clear e0 e1
  go_upto_region 5 with fail
  obtain ⟨w4, hw4⟩ : ∃ w4, w4 = w3.alloc (.cells #[.int .i64 rt, .int .i64 rw, .slice none 0 0] 33) := ⟨_, rfl⟩
  rw [← hw4]
  have K4 : Aside (Keeps Nowhere w2 w4) := ⟨by rw [hw4]; exact k3.it.alloc _⟩
  have PL : Aside (PlayAt w (give (give (fun _ => 0) w1.heap.size 1) w3.heap.size 0) 1 2 w4 p rt rw w3.heap.size none 0 []) := ⟨by
    have g1 : Ground w.heap.size w (give (fun _ => 0) w1.heap.size 1) w2 := (Ground.quiet ⟨fun _ _ => rfl, Below.refl _ _, Nat.le_refl _⟩ ((K0.it.trans K1.it).trans k2.it)).give _ _ (K0.it.trans K1.it).size
    have s3 : w.heap.size ≤ w3.heap.size := Nat.le_trans g1.size k3.it.size
    have x3 : CellsO (give (give (fun _ => 0) w1.heap.size 1) w3.heap.size 0) 0 w4 w3.heap.size 33 [.int .i64 rt, .int .i64 rw, .slice none 0 0] := ⟨by rw [hw4]; exact Cells.new w3 _ _, give_new (Nat.le_refl _)⟩
    refine ⟨⟨?_, readsK_nil w4, fun k hk => by cases hk⟩, (g1.quiet K4.it).give _ _ s3, x3, s3⟩
    have h3 := f2.it.quiet k3.it
    exact (h3.gave 0).quiet (by rw [hw4]; exact (Keeps.refl _ _).alloc _)⟩
  obtain ⟨bq, hbq⟩ : ∃ bq, bq = w3.heap.size := ⟨_, rfl⟩
  obtain ⟨own4, ho4⟩ : ∃ own4, own4 = give (give (fun _ => 0) w1.heap.size 1) w3.heap.size 0 := ⟨_, rfl⟩
  rw [← ho4, ← hbq] at PL
  rw [← hbq]
  clear hw4 K4 f2 k2 k3 C1 K1 hbq ho4
  go_wp2_with fail
  refine (code_of (HS0.it.later PL.it.ground.bel) Coded.none).mono ?_
  rintro e w5 ⟨rfl, rfl⟩
  go_wp2_with fail
  go_loopw [9] (fun i wr => ∃ (k : Nat) (own : Nat → Nat) (a : Option Addr) (c : Nat) (q : Things), i = .int .i64 k ∧ k ≤ M ∧ Aside (q.length ≤ k) ∧ Aside (PlayAt w own 1 2 wr p rt rw bq a c q)) (fun i _ => M - (intOf i).toNat)
  case atStart => exact ⟨0, own4, none, 0, [], rfl, Nat.zero_le _, ⟨Nat.le_refl _⟩, PL⟩
  case round =>
    obtain ⟨k, own, a, c, q, rfl, hk, hql, HP⟩ := hrel
    have hql2 : Aside (q.length ≤ 4398046511103) := ⟨Nat.le_trans hql.it (Nat.le_trans hk hlen)⟩
    obtain ⟨N, hN⟩ : ∃ N, N = q.length := ⟨_, rfl⟩
    have HN : Aside _ := ⟨hN⟩
    have b0 : wr.cell? ⟨bq, 0, none⟩ = some (.int .i64 rt) := by rw [HP.it.box.1.cell]; rfl
    have b1 : wr.cell? ⟨bq, 1, none⟩ = some (.int .i64 rw) := by rw [HP.it.box.1.cell]; rfl
    have b2 : wr.cell? ⟨bq, 2, none⟩ = some (.slice a N c) := by rw [HP.it.box.1.cell, hN]; rfl
    clear hN PL
    rcases Nat.eq_or_lt_of_le hk with rfl | hlt
    · have P0 : Aside _ := ⟨HP.it.both.pair.still (Keeps.refl Nowhere wr).drew⟩
      have WK := hide (walked_ok wr.drew P0.it.fifo hql2.it rt rw _ P0.it.reads)
      rw [← HN.it] at WK
      have HSU : Aside (sumW q ≤ 9223372036854775807) := ⟨Nat.le_trans P0.it.fifo.weight P0.it.fifo.rw63⟩
      have B0 : Aside (Cells wr.drew bq 33 [.int .i64 rt, .int .i64 rw, .slice a N c]) := ⟨by have := HP.it.box.1; rw [← HN.it] at this; exact this.drew⟩
      obtain ⟨t, ht⟩ : ∃ t, t = sumW q := ⟨_, rfl⟩
      have HT : Aside _ := ⟨ht⟩
      clear ht HOP
      go_wp2_with fail
      all_goals first
        | (exfalso; omega)
        | skip
      go_region_held_law (fun w' => w'.cell? ⟨bq, 0, none⟩ = some (.int .i64 rt) ∧ w'.cell? ⟨bq, 1, none⟩ = some (.int .i64 rw) ∧ w'.cell? ⟨bq, 2, none⟩ = some (.slice a N c)) (with_reducible first | exact ⟨b0, b1, b2⟩ | exact ⟨drew_cell' b0, drew_cell' b1, drew_cell' b2⟩ | exact ⟨l0, l1, l2⟩ | exact ⟨m0, m1, m2⟩ | exact ⟨n0, n1, n2⟩) (first
        | (go_at_call 17; refine SU.it.mono ?_; rintro e w9 ⟨rfl, k9⟩; have B9 := B8.it.later k9.it (fun x => x); have n0 : w9.cell? ⟨bq, 0, none⟩ = some (.int .i64 rt) := (by rw [B9.cell]; rfl); have n1 : w9.cell? ⟨bq, 1, none⟩ = some (.int .i64 rw) := (by rw [B9.cell]; rfl); have n2 : w9.cell? ⟨bq, 2, none⟩ = some (.slice a N c) := (by rw [B9.cell]; rfl); clear B9)
        | (go_at_call 16; refine WG.it.mono ?_; rintro e w9 ⟨rfl, rfl⟩)
        | (go_at_call 15; refine LN.it.mono ?_; rintro e w8 ⟨rfl, k8⟩; have P8 : Aside _ := ⟨P7.it.still k8⟩; have B8 : Aside _ := ⟨B7.it.later k8 (fun x => x)⟩; have WG : Aside _ := ⟨weight_o P8.it.fifo⟩; have SU : Aside _ := ⟨refSum_ok w8 rt rw _ q P8.it.reads HSU.it⟩; rw [← HT.it] at WG SU; rw [← HN.it] at SU; have m0 : w8.cell? ⟨bq, 0, none⟩ = some (.int .i64 rt) := (by rw [B8.it.cell]; rfl); have m1 : w8.cell? ⟨bq, 1, none⟩ = some (.int .i64 rw) := (by rw [B8.it.cell]; rfl); have m2 : w8.cell? ⟨bq, 2, none⟩ = some (.slice a N c) := (by rw [B8.it.cell]; rfl); have K8 : Aside _ := ⟨k8⟩; clear k8)
        | (go_at_call 14; refine WK.out.mono ?_; rintro e w7 ⟨rfl, k7⟩; have P7 : Aside _ := ⟨P0.it.still k7.it⟩; have B7 : Aside _ := ⟨B0.it.later k7.it (fun x => x)⟩; have LN : Aside _ := ⟨len_o P7.it.fifo⟩; rw [← HN.it] at LN; have l0 : w7.cell? ⟨bq, 0, none⟩ = some (.int .i64 rt) := (by rw [B7.it.cell]; rfl); have l1 : w7.cell? ⟨bq, 1, none⟩ = some (.int .i64 rw) := (by rw [B7.it.cell]; rfl); have l2 : w7.cell? ⟨bq, 2, none⟩ = some (.slice a N c) := (by rw [B7.it.cell]; rfl)))
      go_wp2
      go_ret
      have kk : Keeps Nowhere wr w9 := (((Keeps.refl Nowhere wr).drew.trans k7.it).trans K8.it).trans k9.it
      exact ⟨rfl, (HP.it.ground.quiet kk).bel⟩
    · obtain ⟨op, hop⟩ : ∃ op, ops[k]? = some op := ⟨_, List.getElem?_eq_getElem (by rw [← HM.it]; exact hlt)⟩
      obtain ⟨sb, so, ws, rfl, s0, s1, s2, s3, hrd, hrl⟩ := HOP.it k op hop
      have t0 := HP.it.ground.cell rfl s0
      have t1 := HP.it.ground.cell rfl s1
      have t2 := HP.it.ground.cell rfl s2
      have t3 := HP.it.ground.cell rfl s3
      have ST := play_step HS0.it HP.it (by decide) (by decide) (by decide) hql2.it op ws hrd hrl
      have SC : Aside _ := ⟨And.intro s0 (And.intro s1 (And.intro s2 s3))⟩
      rw [← HN.it] at ST
      have STH : Aside _ := ⟨ST⟩
      obtain ⟨wa, wc, hws, _⟩ := hrd
      subst hws
      have hnl : Aside ((nextQ rt rw q op).length ≤ k + 1) := ⟨by have := next_len rt rw q op; have := hql.it; omega⟩
      obtain ⟨L, hL⟩ : ∃ L, L = (nextQ rt rw q op).length := ⟨_, rfl⟩
      rw [← hL] at STH
      have HL : Aside _ := ⟨hL⟩
      clear s0 s1 s2 s3 hop hrl ST hL
      go_upto_region 10 with fail
      all_goals first
        | (exfalso; omega)
        | skip
      have hbw : bq ≠ wr.heap.size := by have := HP.it.box.1.lt; omega
      have hsw : sb ≠ wr.heap.size := by have := World.block_lt_of_cell? w _ SC.it.1; have h2 := HP.it.ground.size; exact fun e => by simp only at this; omega
      go_region_held_law (fun w' => (w'.cell? ⟨bq, 0, none⟩ = some (.int .i64 rt) ∧ w'.cell? ⟨bq, 1, none⟩ = some (.int .i64 rw) ∧ w'.cell? ⟨bq, 2, none⟩ = some (.slice a N c)) ∧ w'.cell? ⟨sb, so + k * 4, none⟩ = some (.int .i64 op.kind) ∧ w'.cell? ⟨sb, so + k * 4 + 1, none⟩ = some (.int .i64 op.v) ∧ w'.cell? ⟨sb, so + k * 4 + 2, none⟩ = some (.int .i64 op.w) ∧ w'.cell? ⟨sb, so + k * 4 + 3, none⟩ = some (.slice wa (iv op.out).length wc))
        (with_reducible first | exact ⟨⟨drew_cell' b0, drew_cell' b1, drew_cell' b2⟩, drew_cell' t0, drew_cell' t1, drew_cell' t2, drew_cell' t3⟩ | exact ⟨⟨b0, b1, b2⟩, t0, t1, t2, t3⟩ | exact ⟨⟨drew_cell' (alloc_cell _ b0), drew_cell' (alloc_cell _ b1), drew_cell' (alloc_cell _ b2)⟩, drew_cell' (alloc_cell _ t0), drew_cell' (alloc_cell _ t1), drew_cell' (alloc_cell _ t2), drew_cell' (alloc_cell _ t3)⟩ | exact ⟨⟨alloc_cell _ (drew_cell' b0), alloc_cell _ (drew_cell' b1), alloc_cell _ (drew_cell' b2)⟩, alloc_cell _ (drew_cell' t0), alloc_cell _ (drew_cell' t1), alloc_cell _ (drew_cell' t2), alloc_cell _ (drew_cell' t3)⟩ | exact ⟨⟨m0, m1, m2⟩, y0, y1, y2, y3⟩ | exact ⟨⟨alloc_cell _ m0, alloc_cell _ m1, alloc_cell _ m2⟩, alloc_cell _ y0, alloc_cell _ y1, alloc_cell _ y2, alloc_cell _ y3⟩ | exact ⟨⟨set3_cell _ _ _ _ hbw m0, set3_cell _ _ _ _ hbw m1, set3_cell _ _ _ _ hbw m2⟩, set3_cell _ _ _ _ hsw y0, set3_cell _ _ _ _ hsw y1, set3_cell _ _ _ _ hsw y2, set3_cell _ _ _ _ hsw y3⟩)
        (first
          | (go_at_call 13; refine (STH.it wr.drew (Keeps.refl Nowhere wr).drew).mono ?_; rintro e w6 ⟨n0, n2, own', rfl, bo6, gr6, bx6, si6, nb6⟩; have m0 : w6.cell? ⟨bq, 0, none⟩ = some (.int .i64 rt) := (by rw [bx6.it.1.cell]; rfl); have m1 : w6.cell? ⟨bq, 1, none⟩ = some (.int .i64 rw) := (by rw [bx6.it.1.cell]; rfl); have m2 : w6.cell? ⟨bq, 2, none⟩ = some (.slice a N c) := (by rw [bx6.it.1.cell]; rfl); have y0 := gr6.it.cell rfl SC.it.1; have y1 := gr6.it.cell rfl SC.it.2.1; have y2 := gr6.it.cell rfl SC.it.2.2.1; have y3 := gr6.it.cell rfl SC.it.2.2.2)
          | (go_at_call 13; refine (STH.it (wr.alloc (.cells #[.int .i64 0, .int .i64 0, .slice none 0 0] 33)).drew ((Keeps.refl Nowhere wr).alloc _).drew).mono ?_; rintro e w6 ⟨n0, n2, own', rfl, bo6, gr6, bx6, si6, nb6⟩; have m0 : w6.cell? ⟨bq, 0, none⟩ = some (.int .i64 rt) := (by rw [bx6.it.1.cell]; rfl); have m1 : w6.cell? ⟨bq, 1, none⟩ = some (.int .i64 rw) := (by rw [bx6.it.1.cell]; rfl); have m2 : w6.cell? ⟨bq, 2, none⟩ = some (.slice a N c) := (by rw [bx6.it.1.cell]; rfl); have y0 := gr6.it.cell rfl SC.it.1; have y1 := gr6.it.cell rfl SC.it.2.1; have y2 := gr6.it.cell rfl SC.it.2.2.1; have y3 := gr6.it.cell rfl SC.it.2.2.2; have nx : Aside _ := ⟨nb6.it _ _ _ (Nat.le_refl _) (Cells.new wr 33 [.int .i64 0, .int .i64 0, .slice none 0 0]).drew⟩; have x0 : w6.cell? ⟨wr.heap.size, 0, none⟩ = some (.int .i64 0) := (by rw [nx.it.1.cell]; rfl); have x1 : w6.cell? ⟨wr.heap.size, 1, none⟩ = some (.int .i64 0) := (by rw [nx.it.1.cell]; rfl); have x2 : w6.cell? ⟨wr.heap.size, 2, none⟩ = some (.slice none 0 0) := (by rw [nx.it.1.cell]; rfl); have z0 := nx.it.1.frozen 0; have z1 := nx.it.1.frozen 1; have z2 := nx.it.1.frozen 2))
      · obtain ⟨W7, hW7⟩ : ∃ W7, W7 = w6.alloc (.cells #[.int .i64 rt, .int .i64 rw, .slice n0 L n2] 33) := ⟨_, rfl⟩
        rw [← hW7]
        have K7 : Aside (Keeps (fun k => own' k = 0 ∧ w.heap.size ≤ k) w6 W7) := ⟨by rw [hW7]; exact (Keeps.refl _ _).alloc _⟩
        have C7 : Aside (Cells W7 bq 33 [.int .i64 rt, .int .i64 rw, .slice a N c]) := ⟨by rw [hW7]; exact bx6.it.1.later (S := Nowhere) ((Keeps.refl _ _).alloc _) (fun x => x)⟩
        have N7 : Aside (Cells W7 w6.heap.size 33 [.int .i64 rt, .int .i64 rw, .slice n0 L n2]) := ⟨by rw [hW7]; exact Cells.new w6 _ _⟩
        clear hW7
        have p0 : W7.cell? ⟨bq, 0, none⟩ = some (.int .i64 rt) := by rw [C7.it.cell]; rfl
        have p1 : W7.cell? ⟨bq, 1, none⟩ = some (.int .i64 rw) := by rw [C7.it.cell]; rfl
        have p2 : W7.cell? ⟨bq, 2, none⟩ = some (.slice a N c) := by rw [C7.it.cell]; rfl
        have f0 := C7.it.frozen 0
        have f1 := C7.it.frozen 1
        have f2 := C7.it.frozen 2
        have q0 : W7.cell? ⟨w6.heap.size, 0, none⟩ = some (.int .i64 rt) := by rw [N7.it.cell]; rfl
        have q1 : W7.cell? ⟨w6.heap.size, 1, none⟩ = some (.int .i64 rw) := by rw [N7.it.cell]; rfl
        have q2 : W7.cell? ⟨w6.heap.size, 2, none⟩ = some (.slice n0 L n2) := by rw [N7.it.cell]; rfl
        go_wp2
        go_roundw
        case rel =>
          refine ⟨k + 1, own', n0, n2, nextQ rt rw q op, by go_num, by omega, hnl, ⟨?_⟩⟩
          have bo := bo6.it
          rw [HL.it] at bo
          refine PlayAt.next (by decide) (by decide) bo gr6.it bx6.it HP.it.new ?_ (fun _ _ => rfl) ?_
          · exact (((K7.it.setCell ⟨bq, 0, none⟩ _ (fun _ => ⟨bx6.it.2, HP.it.new⟩)).setCell ⟨bq, 1, none⟩ _ (fun _ => ⟨bx6.it.2, HP.it.new⟩)).setCell ⟨bq, 2, none⟩ _ (fun _ => ⟨bx6.it.2, HP.it.new⟩))
          · rw [← HL.it]
            exact ((C7.it.setCell 0 (.int .i64 rt)).setCell 1 (.int .i64 rw)).setCell 2 (.slice n0 L n2)
        case measure => simp [intOf]; omega
      · obtain ⟨W7, hW7⟩ : ∃ W7, W7 = ((w6.setCell ⟨wr.heap.size, 0, none⟩ (.int .i64 rt)).setCell ⟨wr.heap.size, 1, none⟩ (.int .i64 rw)).setCell ⟨wr.heap.size, 2, none⟩ (.slice n0 L n2) := ⟨_, rfl⟩
        rw [← hW7]
        have K7 : Aside (Keeps (fun k => own' k = 0 ∧ w.heap.size ≤ k) w6 W7) := ⟨by rw [hW7]; exact (((Keeps.refl _ _).setCell ⟨wr.heap.size, 0, none⟩ _ (fun _ => ⟨nx.it.2, HP.it.ground.size⟩)).setCell ⟨wr.heap.size, 1, none⟩ _ (fun _ => ⟨nx.it.2, HP.it.ground.size⟩)).setCell ⟨wr.heap.size, 2, none⟩ _ (fun _ => ⟨nx.it.2, HP.it.ground.size⟩)⟩
        have C7 : Aside (Cells W7 bq 33 [.int .i64 rt, .int .i64 rw, .slice a N c]) := ⟨by rw [hW7]; exact ((bx6.it.1.setOther ⟨wr.heap.size, 0, none⟩ (.int .i64 rt) hbw).setOther ⟨wr.heap.size, 1, none⟩ (.int .i64 rw) hbw).setOther ⟨wr.heap.size, 2, none⟩ (.slice n0 L n2) hbw⟩
        have N7 : Aside (Cells W7 wr.heap.size 33 [.int .i64 rt, .int .i64 rw, .slice n0 L n2]) := ⟨by rw [hW7]; exact ((nx.it.1.setCell 0 (.int .i64 rt)).setCell 1 (.int .i64 rw)).setCell 2 (.slice n0 L n2)⟩
        clear hW7
        have p0 : W7.cell? ⟨bq, 0, none⟩ = some (.int .i64 rt) := by rw [C7.it.cell]; rfl
        have p1 : W7.cell? ⟨bq, 1, none⟩ = some (.int .i64 rw) := by rw [C7.it.cell]; rfl
        have p2 : W7.cell? ⟨bq, 2, none⟩ = some (.slice a N c) := by rw [C7.it.cell]; rfl
        have f0 := C7.it.frozen 0
        have f1 := C7.it.frozen 1
        have f2 := C7.it.frozen 2
        have q0 : W7.cell? ⟨wr.heap.size, 0, none⟩ = some (.int .i64 rt) := by rw [N7.it.cell]; rfl
        have q1 : W7.cell? ⟨wr.heap.size, 1, none⟩ = some (.int .i64 rw) := by rw [N7.it.cell]; rfl
        have q2 : W7.cell? ⟨wr.heap.size, 2, none⟩ = some (.slice n0 L n2) := by rw [N7.it.cell]; rfl
        go_wp2
        go_roundw
        case rel =>
          refine ⟨k + 1, own', n0, n2, nextQ rt rw q op, by go_num, by omega, hnl, ⟨?_⟩⟩
          have bo := bo6.it
          rw [HL.it] at bo
          refine PlayAt.next (by decide) (by decide) bo gr6.it bx6.it HP.it.new ?_ (fun _ _ => rfl) ?_
          · exact (((K7.it.setCell ⟨bq, 0, none⟩ _ (fun _ => ⟨bx6.it.2, HP.it.new⟩)).setCell ⟨bq, 1, none⟩ _ (fun _ => ⟨bx6.it.2, HP.it.new⟩)).setCell ⟨bq, 2, none⟩ _ (fun _ => ⟨bx6.it.2, HP.it.new⟩))
          · rw [← HL.it]
            exact ((C7.it.setCell 0 (.int .i64 rt)).setCell 1 (.int .i64 rw)).setCell 2 (.slice n0 L n2)
        case measure => simp [intOf]; omega
theorem fifoPlays_walk {A : Nat → Addr} (room : Value) (z : RoomZ) (script : Value) (ops : List OpV3) (w : World) (hs : Sents 133 codeVars A w) (hr : RoomAt w room z) (ho : OpsAt3 w script ops) :
    Calls Tryd.prog 3 #[room, script] w fun e w' => e = .returned (.bool true) ∧ Below w.heap.size w w' := by
  obtain ⟨t, r⟩ := z
  obtain ⟨rfl, h1, h2⟩ := hr
  by_cases hbad : t < 0 ∨ r < 0
  · exact fifoPlays_bad t r script ops w hs ho hbad
  · obtain ⟨rt, rfl⟩ : ∃ n : Nat, t = n := ⟨t.toNat, by omega⟩
    obtain ⟨rw, rfl⟩ : ∃ n : Nat, r = n := ⟨r.toNat, by omega⟩
    exact fifoPlays_good rt rw (by simp only at h1; omega) (by simp only at h2; omega) script ops w hs ho
end Go.Proofs.YtgfgnabjffokjaaDoor
