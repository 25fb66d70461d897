import Derived.Test.YtnljgklmaljfjaaDoorFpWpair
import Derived.Test.YtnljgklmaljfjaaDoorRgPpair
import Derived.Test.YtnljgklmaljfjaaDoorRgB
import Derived.Test.YtnljgklmaljfjaaDoorOpenP3
import Derived.Test.YtnljgklmaljfjaaDoorGiQ
import Derived.Test.YtnljgklmaljfjaaDoorWakes
import Derived.Laws.EntriesVeiled
import Derived.Deep.DeepCutAuto
import Derived.Sort.CutIn
/-
  FifoPairs' last walk: its world
-/
namespace Go.Proofs.YtnljgklmaljfjaaDoor
open Go.RowKit Fint

variable {A : Nat → Addr} {w0 w w' W : World} {own own' : Nat → Nat} {p rt rw t : Nat} {q q' d d' q0 : Things} {s s' : Value} {C C' : List Bx} {I : Nat → Prop} {bw : Nat} {vw : Value} {Ds : List Nat}

/-- and the walk (owner 5), the marks (owner 15) -/
structure Pr (A : Nat → Addr) (w0 : World) (own : Nat → Nat) (W : World) (p rt rw : Nat) (q : Things) (t : Nat) (s : Value) (d : Things) (C : List Bx) (bw : Nat) (vw : Value) (q0 : Things) (Ds : List Nat) : Prop where
  x : Pp A w0 own W p rt rw q t s d C
  wk : Fpair.WalkV W bw vw q0
  wo : own bw = 5 ∧ ∀ k, vw.ownBlock = some k → own k = 5
  ds : ∀ D ∈ Ds, W.heap[D]? = some (.deferred (some [])) ∧ own D = 15
theorem Pr.with (h : Pr A w0 own W p rt rw q t s d C bw vw q0 Ds) (hx : Pp A w0 own' w' p rt rw q' t s' d' C') (n : Sn I own W own' w') (h5 : ¬ I 5) (h15 : ¬ I 15) : Pr A w0 own' w' p rt rw q' t s' d' C' bw vw q0 Ds := by
  have hb := World.block_lt_of_cell? W _ h.wk.c
  refine ⟨hx, ⟨?_, owns_later h.wk.r n.keeps (fun b hb e => h5 (by rw [← h.wo.2 b hb]; exact e))⟩, ⟨(n.agree bw hb).trans h.wo.1, fun k hk => (n.agree k (owns_lt h.wk.r k hk)).trans (h.wo.2 k hk)⟩, fun D hD => ?_⟩
  · rw [World.cell?_of_block (w := W) (n.keeps.block bw hb (fun e => h5 (by rw [← h.wo.1]; exact e)))]
    exact h.wk.c
  · obtain ⟨e1, e2⟩ := h.ds D hD
    have hl := (Array.getElem?_eq_some_iff.1 e1).1
    exact ⟨(n.keeps.block D hl (fun e => h15 (by rw [← e2]; exact e))).trans e1, (n.agree D hl).trans e2⟩
theorem Pr.sn (h : Pr A w0 own W p rt rw q t s d C bw vw q0 Ds) (n : Sn I own W own' w') (h0 : ¬ I 0) (h1 : ¬ I 1) (h2 : ¬ I 2) (h5 : ¬ I 5) (h15 : ¬ I 15) (hc : ∀ x ∈ C, ¬ I x.1) : Pr A w0 own' w' p rt rw q t s d C bw vw q0 Ds := h.with (h.x.sn n h0 h1 h2 hc) n h5 h15
theorem Pr.quiet (h : Pr A w0 own W p rt rw q t s d C bw vw q0 Ds) (hk : Keeps Nowhere W w') : Pr A w0 own w' p rt rw q t s d C bw vw q0 Ds := h.sn (I := fun _ => False) (Sn.same hk) (fun x => x) (fun x => x) (fun x => x) (fun x => x) (fun x => x) (fun _ _ x => x)
theorem Pr.sub (h : Pr A w0 own W p rt rw q t s d C bw vw q0 Ds) (hs : ∀ x ∈ C', x ∈ C) : Pr A w0 own W p rt rw q t s d C' bw vw q0 Ds := ⟨h.x.sub hs, h.wk, h.wo, h.ds⟩
theorem Pr.write {i nb : Nat} {ty : TypeId} {cs cs' : List Value} (h : Pr A w0 own W p rt rw q t s d ((i, nb, ty, cs) :: C) bw vw q0 Ds) (hC : ∀ x ∈ C, x.1 ≠ i) (hi : i ≠ 0 ∧ i ≠ 1 ∧ i ≠ 2 ∧ i ≠ 5 ∧ i ≠ 15) (hk : Keeps (fun k => k = nb) W w') (hc : Cells w' nb ty cs') : Pr A w0 own w' p rt rw q t s d ((i, nb, ty, cs') :: C) bw vw q0 Ds := by
  have hn := h.x.c _ (List.mem_cons_self ..)
  have n : Sn (fun k => k = i) own W own w' := ⟨fun _ _ => rfl, hk.mono (fun k e _ => by rw [e]; exact hn.2)⟩
  exact h.with (h.x.write hC ⟨hi.1, hi.2.1, hi.2.2.1⟩ hk hc) n (fun e => hi.2.2.2.1 e.symm) (fun e => hi.2.2.2.2 e.symm)
theorem Pr.put {l i : Nat} {o : Obj} (h : Pr A w0 own W p rt rw q t s d C bw vw q0 Ds) (ho : own l = i) (hi : i ≠ 0 ∧ i ≠ 1 ∧ i ≠ 2 ∧ i ≠ 5 ∧ i ≠ 15) (hC : ∀ x ∈ C, x.1 ≠ i) : Pr A w0 own (W.putObj l o) p rt rw q t s d C bw vw q0 Ds := by
  have n : Sn (fun k => k = i) own W own (W.putObj l o) := ⟨fun _ _ => rfl, (putObj_keeps W l o).mono (fun k e _ => by rw [e]; exact ho)⟩
  exact h.sn n (fun e => hi.1 e.symm) (fun e => hi.2.1 e.symm) (fun e => hi.2.2.1 e.symm) (fun e => hi.2.2.2.1 e.symm) (fun e => hi.2.2.2.2 e.symm) (fun x hx e => hC x hx e)
theorem Pr.enter (h : Pr A w0 own W p rt rw q t s d C bw vw q0 Ds) (r : Loop) : ∃ own', Pr A w0 own' ((W.alloc (.deferred (some []))).alloc (.loop r)) p rt rw q t s d C bw vw q0 (W.heap.size :: Ds) ∧ own' (W.heap.size + 1) = 14 := by
  have ho : (fun k => if k < W.heap.size then own k else if k = W.heap.size then 15 else 14) (W.heap.size + 1) = 14 := by
    show (if W.heap.size + 1 < W.heap.size then own (W.heap.size + 1) else if W.heap.size + 1 = W.heap.size then 15 else 14) = 14
    rw [if_neg (by omega), if_neg (by omega)]
  refine ⟨fun k => if k < W.heap.size then own k else if k = W.heap.size then 15 else 14, ?_, ho⟩
  have K : Keeps Nowhere W ((W.alloc (.deferred (some []))).alloc (.loop r)) := ((Keeps.refl _ _).alloc _).alloc _
  have n : Sn (fun _ => False) own W (fun k => if k < W.heap.size then own k else if k = W.heap.size then 15 else 14) ((W.alloc (.deferred (some []))).alloc (.loop r)) := ⟨fun k hk => if_pos hk, K.any⟩
  have h' := h.sn n (fun x => x) (fun x => x) (fun x => x) (fun x => x) (fun x => x) (fun _ _ x => x)
  refine ⟨h'.x, h'.wk, h'.wo, fun D hD => ?_⟩
  rcases List.mem_cons.1 hD with rfl | hD
  · refine ⟨?_, by simp⟩
    rw [Below.heap_alloc _ _ _ (by simp)]
    exact World.alloc_heap_new W _
  · exact h'.ds D hD
/-- the end: the answer is stored, the mark is taken -/
theorem Pr.fin {tb d0 : Nat} (h : Pr A w0 own W p rt rw q t s d C bw vw q0 [d0]) (m : (6, tb, 4, [.bool false]) ∈ C) :
    (W.setCell ⟨tb, 0, none⟩ (.bool true)).heap[d0]? = some (.deferred (some [])) ∧ ((W.setCell ⟨tb, 0, none⟩ (.bool true)).putObj d0 (.deferred none)).cell? ⟨tb, 0, none⟩ = some (.bool true) ∧ Below w0.heap.size w0 ((W.setCell ⟨tb, 0, none⟩ (.bool true)).putObj d0 (.deferred none)) := by
  obtain ⟨e0, o0⟩ := h.ds d0 (by simp)
  have ht := h.x.c _ m
  have t0 : d0 ≠ tb := fun e => by have h6 : own tb = 6 := ht.2; rw [← e, o0] at h6; exact absurd h6 (by decide)
  have ks : Keeps (fun k => k = tb) W (W.setCell ⟨tb, 0, none⟩ (.bool true)) := (Keeps.refl _ W).setCell ⟨tb, 0, none⟩ (.bool true) (fun _ => rfl)
  have k0 := putObj_keeps (W.setCell ⟨tb, 0, none⟩ (.bool true)) d0 (.deferred none)
  refine ⟨(ks.block _ (Array.getElem?_eq_some_iff.1 e0).1 t0).trans e0, ?_, ?_⟩
  · have c := (ht.1.setCell 0 (.bool true)).later k0 (fun e => t0 e.symm)
    rw [c.cell]; rfl
  · have K : Keeps (fun k => own k = 6 ∨ own k = 15) W ((W.setCell ⟨tb, 0, none⟩ (.bool true)).putObj d0 (.deferred none)) :=
      (ks.mono (fun k e _ => .inl (by rw [e]; exact ht.2))).trans (k0.mono (fun k e _ => .inr (by rw [e]; exact o0)))
    exact (h.x.g.sn (I := fun k => k = 6 ∨ k = 15) ⟨fun _ _ => rfl, K⟩ (by decide)).bel
/-- a thing of the document's queue -/
theorem Pp.at (h : Pp A w0 own W p rt rw q t s d C) {j : Nat} {x : Int × Nat} (hx : d[j]? = some x) : ∃ a c g o, s = .slice a d.length c ∧ a = some ⟨g, o, none⟩ ∧ W.cell? ⟨g, o + j * 2, none⟩ = some (.int .i64 x.1) ∧ W.cell? ⟨g, o + j * 2 + 1, none⟩ = some (.int .i64 x.2) := by
  obtain ⟨a, c, e, _, _, hc⟩ := ReadsK.at h.rd
  obtain ⟨g, o, ha, c0, c1⟩ := hc j x hx
  exact ⟨a, c, g, o, e, ha, c0, c1⟩
end Go.Proofs.YtnljgklmaljfjaaDoor

/-
  FifoPairs
-/
namespace Go.Proofs.YtnljgklmaljfjaaDoor
open Go.RowKit Fint Go.Shelf
attribute [local go_sem] Oper.semAt_some

set_option maxRecDepth 20000 in
set_option maxHeartbeats 8000000 in
theorem fifoPairs_good {A : Nat → Addr} (rt rw : Nat) (hrt : rt ≤ 9223372036854775807) (hrw : rw ≤ 9223372036854775807) (script : Value) (ops : List OpV3) (w : World) (hs : Sents 129 codeVars A w) (hp : Fpair.PowT w) (ho : OpsAtP w script ops) :
    Calls Tryd.prog 3 #[.agg #[.int .i64 rt, .int .i64 rw], script] w fun e w' => e = .returned (.bool true) ∧ Below w.heap.size w w' := by
  obtain ⟨⟨a, c, rfl, hzc, hcm, hop⟩, hz24⟩ := ho
  obtain ⟨N, hN⟩ : ∃ N, ops.length = N := ⟨_, rfl⟩
  have HN := Aside.mk hN
  have HOP := Aside.mk hop
  rw [hN] at hzc hz24 ⊢
  have HS := Aside.mk hs
  have HP := Aside.mk hp
  have HR := Aside.mk (And.intro hrt hrw)
  clear hs hp hN hop hcm
  obtain ⟨w1, hw1⟩ : ∃ w1, w1 = (w.alloc (.cells #[.int .i64 rt, .int .i64 rw] 23)).alloc (.cells #[.bool false] 4) := ⟨_, rfl⟩
  have K1 : Aside (Keeps Nowhere w w1) := ⟨by rw [hw1]; exact ((Keeps.refl _ _).alloc _).alloc _⟩
  have C4 : Aside (Cells w1 w.heap.size 23 [.int .i64 rt, .int .i64 rw]) := ⟨by rw [hw1]; exact (Cells.new w _ _).later (S := Nowhere) ((Keeps.refl _ _).alloc _) (fun x => x)⟩
  have C5 : Aside (Cells w1 (w.heap.size + 1) 4 [.bool false]) := ⟨by
    have h := Cells.new (w.alloc (.cells #[.int .i64 rt, .int .i64 rw] 23)) 4 [.bool false]
    rw [World.size_alloc] at h
    rw [hw1]; exact h⟩
  have WK := Aside.mk (wakes_ok w1 (HS.it.later K1.it.bel))
  refine (callsIn_wide (n := 9)).1 ?_
  refine callsIn_of_wp_marks Tryd.func3 rfl trivial ?_ rfl
  simp only [Tryd.ntmps3, List.size_toArray, List.length_cons, List.length_nil, Nat.reduceAdd, Nat.reduceSub, Array.replicate_succ, Array.replicate_zero, List.push_toArray, List.append_toArray, List.nil_append, List.cons_append]
  refine wpIn_wide.2 ?_
  go_upto_region 1 with fail
  rw [← hw1]
  clear hw1
  go_upto_region 3 with (go_at_call 5; refine WK.it.mono ?_; clear WK; rintro e w2 ⟨rfl, B2⟩)
  have K2 : Aside (Keeps Nowhere w1 w2) := ⟨Keeps.ofBelow B2.it⟩
  clear B2
  have c2 := C4.it.later K2.it (fun x => x)
  have d0 : w2.cell? ⟨w.heap.size, 0, none⟩ = some (.int .i64 rt) := by rw [c2.cell]; rfl
  have d1 : w2.cell? ⟨w.heap.size, 1, none⟩ = some (.int .i64 rw) := by rw [c2.cell]; rfl
  have C4 := Aside.mk c2
  clear c2
  have NW := Aside.mk (Fpair.new_o w2 rt rw HR.it.1 HR.it.2 (give (fun _ => 0) w.heap.size 6) 1)
  go_upto_region 4 with (go_at_call 6; refine NW.it.mono ?_; clear NW; rintro e w3 ⟨p, rfl, X3, K3⟩)
  have c3 := C4.it.later K3.it (fun x => x)
  have d0 : w3.cell? ⟨w.heap.size, 0, none⟩ = some (.int .i64 rt) := by rw [c3.cell]; rfl
  have d1 : w3.cell? ⟨w.heap.size, 1, none⟩ = some (.int .i64 rw) := by rw [c3.cell]; rfl
  clear c3
  have DN := Aside.mk (refNew_good w3 rt rw)
  go_upto_region 5 with (first | (go_at_call 7; refine DN.it.mono ?_; clear DN; rintro e w4 ⟨rfl, K4⟩) | fail)
  obtain ⟨wb, hwb⟩ : ∃ wb, w4.heap.size = wb := ⟨_, rfl⟩
  obtain ⟨CC, hCC⟩ : ∃ CC : List Bx, CC = [(6, w.heap.size + 1, 4, [.bool false])] := ⟨_, rfl⟩
  obtain ⟨own5, P5⟩ : ∃ own5, Aside (Pp A w own5 (w4.alloc (.cells #[.int .i64 rt, .int .i64 rw, .slice none 0 0] 35)) p rt rw [] 0 (.slice none 0 0) [] ((9, wb, 35, [.int .i64 rt, .int .i64 rw, .slice none 0 0]) :: CC)) := by
    have s2 : Sn (fun _ => False) (fun _ => 0) w (give (fun _ => 0) w.heap.size 6) w2 := Sn.quiet (K1.it.trans K2.it) 6
    have s3 : Sn (fun _ => False) (give (fun _ => 0) w.heap.size 6) w2 (give (give (fun _ => 0) w.heap.size 6) w2.heap.size 1) w3 := Sn.quiet K3.it 1
    generalize give (give (fun _ => 0) w.heap.size 6) w2.heap.size 1 = own3 at X3 s3
    have s5 : Sn (fun _ => False) own3 w3 (give own3 w3.heap.size 9) (w4.alloc (.cells #[.int .i64 rt, .int .i64 rw, .slice none 0 0] 35)) := Sn.quiet (K4.it.alloc _) 9
    have G2 : Ground w.heap.size w (give (fun _ => 0) w.heap.size 6) w2 := Ground.sn ⟨fun _ _ => rfl, Below.refl _ _, Nat.le_refl _⟩ s2 (fun x => x)
    refine ⟨_, ⟨(G2.sn s3 (fun x => x)).sn s5 (fun x => x), HS.it, HP.it, X3.it.sn s5 (fun x => x), ⟨rfl, none, 0, rfl, Nat.le_refl _, Nat.zero_le _, fun _ => rfl, fun j u hj => by simp [flat] at hj⟩, (fun k hk => by cases hk), fun x hx => ?_⟩⟩
    rcases List.mem_cons.1 hx with rfl | hx
    · rw [← hwb]
      exact ⟨Cells.new w4 _ _, give_new K4.it.size⟩
    rw [hCC] at hx
    simp only [List.mem_cons, List.not_mem_nil, or_false] at hx
    subst hx
    exact (show CellsO (give (fun _ => 0) w.heap.size 6) 6 w2 (w.heap.size + 1) 4 [.bool false] from ⟨C5.it.later K2.it (fun x => x), give_new (show w.heap.size ≤ w.heap.size + 1 by omega)⟩).sn s3 (fun x => x) |>.sn s5 (fun x => x)
  rw [hwb]
  generalize (w4.alloc (.cells #[.int .i64 rt, .int .i64 rw, .slice none 0 0] 35)) = W5 at P5 ⊢
  have M6 : Aside ((6, w.heap.size + 1, 4, [.bool false]) ∈ CC) := ⟨by rw [hCC]; simp⟩
  have C1 : Aside (∀ x ∈ CC, x.1 = 6) := ⟨by rw [hCC]; intro x hx; simp only [List.mem_cons, List.not_mem_nil, or_false] at hx; rw [hx]⟩
  clear hCC hwb d0 d1 C4 C5 X3 K1 K2 K3 K4
  go_upto_region 7 with (go_at_call 8; refine (code_of P5.it.sents Coded.none).mono ?_; rintro e w5 ⟨rfl, rfl⟩)
  go_upto_region 8 with fail
  go_loopw [9] (fun v wr => ∃ (j : Nat) (q : Things) (s : Value) (own : Nat → Nat), v = .int .i64 j ∧ j ≤ N ∧ Aside (BQ q) ∧ Aside (Pp A w own wr p rt rw q j s q ((9, wb, 35, [.int .i64 rt, .int .i64 rw, s]) :: CC))) (fun v _ => N - (intOf v).toNat)
  case atStart => exact ⟨0, [], _, own5, rfl, Nat.zero_le _, ⟨fun x hx => by cases hx⟩, P5⟩
  case round =>
    clear P5
    obtain ⟨j, q, s, own, rfl, hj, BB, X⟩ := hrel
    obtain ⟨va, vc, hs, hvc⟩ := X.it.slc
    subst hs
    obtain ⟨nl, hnl⟩ : ∃ nl, q.length = nl := ⟨_, rfl⟩
    have HNL := Aside.mk hnl
    rw [hnl] at X hvc
    clear hnl
    rcases Nat.eq_or_lt_of_le hj with rfl | hlt
    · go_upto_region 34 with fail
      have X1 := Aside.mk (X.it.box 12 3 [.int .i64 0])
      clear X
      generalize (wr.alloc (.cells #[.int .i64 0] 3)) = W1 at X1 ⊢
      generalize give own wr.heap.size 12 = own1 at X1
      generalize wr.heap.size = ib at X1 ⊢
      have hnl6 : nl ≤ 4398046511103 := by have := X1.it.len.1; rw [HNL.it] at this; omega
      have AL := Aside.mk (Fpair.all_o X1.it.f hz24)
      go_upto_region 35 with (first | (go_at_call 19; refine AL.it.mono ?_; clear AL; rintro e w4 ⟨bw, rfl, W4, K4⟩) | fail)
      obtain ⟨vw, hwb5, hwv⟩ : ∃ vw, W1.heap.size ≤ bw ∧ w4.cell? ⟨bw, 0, none⟩ = some vw ∧ w4.ownsRow W1.heap.size 81 3 vw q.length (Fpair.flat q) := by
        obtain ⟨b', v', he, h1, h2, h3⟩ := W4.it.it
        injection he with _ _ he
        injection he with he
        injection he with he
        injection he with he
        injection he with he
        injection he with he
        subst he
        exact ⟨v', h1, h2, h3⟩
      have R4 : Aside (Pr A w (give own1 W1.heap.size 5) w4 p rt rw q j (.slice va nl vc) q ((12, ib, 3, [.int .i64 0]) :: (9, wb, 35, [.int .i64 rt, .int .i64 rw, .slice va nl vc]) :: CC) bw vw q []) := ⟨by
        have x4 := X1.it.step K4.it 5
        exact ⟨x4, ⟨hwv.1, owns_any hwv.2⟩, ⟨give_new hwb5, fun k hk => give_new (owns_base hwv.2 k hk)⟩, fun D hD => by cases hD⟩⟩
      have nn : (binOp BinOp.eql 56 (.func (.func 37) #[] #[.pointer (some ⟨bw, 0, none⟩)]) .nilFunc).run Tryd.prog w4 = .ok (.bool false) w4 := Fpair.walk_not_nil w4 bw
      clear X1 W4 hwv hwb5 K4
      generalize give own1 W1.heap.size 5 = own4 at R4
      go_upto_region 37 with fail
      clear nn
      go_wp2_with fail
      refine (wpIn_wide (n := 9)).1 ?_
      refine range_outerP (gf := 37) (lb := #[.pointer (some ⟨bw, 0, none⟩)]) rfl (enters_of Tryd.func37 (by kernel_rfl) rfl) (Fpair.all_hands 8 bw vw q (by rw [HNL.it]; omega)) (fun _ => rfl)
        (fun pre W => ∃ own, Pr A w own W p rt rw q j (.slice va nl vc) q ((12, ib, 3, [.int .i64 pre.length]) :: (9, wb, 35, [.int .i64 rt, .int .i64 rw, .slice va nl vc]) :: CC) bw vw q [w4.heap.size] ∧ own (w4.heap.size + 1) = 14)
        (fun _ _ _ => False) ?h0 ?hq ?hw ?hp (fun _ _ _ _ _ h _ => h) ?a1 (fun x pb W => Cells W pb 32 [.string (Fpair.txt x.1), .int .i64 x.1]) ?hBp ?assign ?body ?done (fun _ _ _ _ h => h.elim)
      case h0 =>
        intro r
        obtain ⟨own', h1, h2⟩ := R4.it.enter r
        exact ⟨own', h1, h2⟩
      case hq =>
        rintro pre A' B' ⟨own, h, ho⟩ hk
        exact ⟨own, h.quiet hk, ho⟩
      case hw =>
        rintro pre A' ⟨own, h, ho⟩
        exact h.wk
      case hp =>
        rintro pre A' r r' ⟨own, h, ho⟩ hl
        refine ⟨own, h.put ho (by decide) (fun x hx => ?_), ho⟩
        simp only [List.mem_cons] at hx
        rcases hx with rfl | rfl | hx
        · exact (by decide : (12 : Nat) ≠ 14)
        · exact (by decide : (9 : Nat) ≠ 14)
        · rw [C1.it x hx]; decide
      case hBp =>
        intro x pb W r r' hc hl
        refine hc.later (putObj_keeps W _ _) (fun e => ?_)
        unfold Cells at hc
        rw [e, hl] at hc
        cases hc
      case assign =>
        intro x W K hK
        gi_wp2
        have hK' := fun pb => hK pb _ ((Keeps.refl _ _).alloc (.cells #[.string (Fpair.txt x.1), .int .i64 x.1] 32))
        have hc := Cells.new W 32 [.string (Fpair.txt x.1), .int .i64 x.1]
        revert hc
        generalize W.heap.size = pb
        intro hc
        exact hK' pb hc
      case body =>
        rintro pre x W rec pb hc ⟨own, R, hlo⟩ hpre hx hrec
        have hlt : pre.length < nl := by rw [← HNL.it]; exact (List.getElem?_eq_some_iff.1 hx).1
        obtain ⟨k, hk⟩ : ∃ k, pre.length = k := ⟨_, rfl⟩
        rw [hk] at R hx hlt
        obtain ⟨sa, sc, sg, sof, hse, rfl, y0, y1⟩ := R.x.at hx
        injection hse with e1 e2 e3
        subst e1 e3
        clear e2
        have HX := Aside.mk (BB.it x (List.mem_of_getElem? hx))
        have RR := Aside.mk R
        have HK := Aside.mk (And.intro hk (And.intro hlo hrec))
        have v0 : W.cell? ⟨pb, 0, none⟩ = some (.string (Fpair.txt x.1)) := by rw [hc.cell]; rfl
        have v1 : W.cell? ⟨pb, 1, none⟩ = some (.int .i64 x.1) := by rw [hc.cell]; rfl
        have v2 := R.x.cell (List.mem_cons_self ..) 0
        have v3 := R.x.cell (List.mem_cons_of_mem _ (List.mem_cons_self ..)) 2
        simp only [List.getElem?_cons_zero, List.getElem?_cons_succ] at v2 v3
        have MD := Aside.mk (KeW.call (w1 := W) (fun W' kk => Fpair.made_ok (Fpair.powT_later RR.it.x.pow kk.bel) x.1 HX.it))
        have c0 := fun n => KeW.cell v0 n
        have c1 := fun n => KeW.cell v1 n
        have c2 := fun n => KeW.cell v2 n
        have c3 := fun n => KeW.cell v3 n
        have c4 := fun n => KeW.cell y0 n
        have c5 := fun n => KeW.cell y1 n
        haveI : Nonempty (KeW W) := ⟨⟨W, Keeps.refl _ _⟩⟩
        have ew : ((x.2 : Int) != x.2) = false := by simp
        have hkl : (k : Int) < nl := by omega
        have hmd : decide ((nl : Int) ≤ k) = false := decide_eq_false (by omega)
        have hml2 : ¬ (nl : Int) ≤ k := by omega
        have hm0 : (0 : Int) ≤ k := by omega
        clear v0 v1 v2 v3 y0 y1 R hx hk hlo hrec hpre hc
        gi_upto_region 40 with fail
        refine wpIn_region_quietR (KeW.W (w1 := W)) (by kernel_rfl) (by kernel_rfl) (by kernel_rfl) ⟨W.drew, (Keeps.refl _ _).drew⟩ rfl ?_
        repeat (go_big_quiet_step (first | (go_at_call 11; exact MD.it _)))
        refine wpQuiet_nil ?_
        rintro _ ⟨n11, rfl⟩
        have Y := Aside.mk (RR.it.quiet n11.ok)
        have hl11 := Aside.mk (quiet_block HK.it.2.2 n11.ok)
        clear c0 c1 c2 c3 c4 c5 MD this RR
        generalize n11.W = w11 at *
        have ci := Y.it.x.cell (List.mem_cons_self ..) 0
        have fi := Y.it.x.frz (List.mem_cons_self ..) 0
        simp only [List.getElem?_cons_zero] at ci
        gi_wp2
        have hjo : own ib = 12 := (Y.it.x.c _ (List.mem_cons_self ..)).2
        have n2 : w4.heap.size + 1 ≠ ib := fun e => by have := HK.it.2.1; rw [e, hjo] at this; cases this
        have wr1 := Y.it.write (cs' := [.int .i64 ((k : Int) + 1)]) (fun x hx => by
          simp only [List.mem_cons] at hx
          rcases hx with rfl | hx
          · exact (by decide : (9 : Nat) ≠ 12)
          · rw [C1.it x hx]; decide) (by decide) ((Keeps.refl (fun k => k = ib) w11).setCell ⟨ib, 0, none⟩ (.int .i64 ((k : Int) + 1)) (fun _ => rfl)) ((Y.it.x.c _ (List.mem_cons_self ..)).1.setCell 0 (.int .i64 ((k : Int) + 1)))
        refine ⟨((Below.heap_setCell w11 _ _ _ n2).trans hl11.it).trans HK.it.2.2.symm, own, ?_, HK.it.2.1⟩
        rw [List.length_append, HK.it.1]
        exact wr1
      case done =>
        rintro W ⟨own, R, hlo⟩
        rw [HNL.it] at R
        have ci := R.x.cell (List.mem_cons_self ..) 0
        have cq := R.x.cell (List.mem_cons_of_mem _ (List.mem_cons_self ..)) 2
        have t6 := R.x.cell (List.mem_cons_of_mem _ (List.mem_cons_of_mem _ M6.it)) 0
        have z6 := R.x.frz (List.mem_cons_of_mem _ (List.mem_cons_of_mem _ M6.it)) 0
        simp only [List.getElem?_cons_zero, List.getElem?_cons_succ] at ci cq t6
        have enn : ((nl : Int) == nl) = true := by simp
        have HR2 := Aside.mk R
        clear R R4
        dsimp only
        go_wp2_with fail
        obtain ⟨q0, qc, qb⟩ := HR2.it.fin (List.mem_cons_of_mem _ (List.mem_cons_of_mem _ M6.it))
        refine ⟨by simp, .inl ⟨_, _, rfl, run_takeDeferred q0, ?_⟩⟩
        refine ⟨.bool true, ?_, rfl, qb⟩
        simp [results, Tryd.f3, go_sem, qc]
    · obtain ⟨z, hz⟩ : ∃ z, ops[j]? = some z := ⟨_, List.getElem?_eq_getElem (by rw [HN.it]; exact hlt)⟩
      obtain ⟨sb, so, ws, rfl, x0, x1, x2, x3, hrd, hrl, hvb⟩ := HOP.it j z hz
      have OC : Aside (OpC w sb (so + j * 4) z ws) := ⟨x0, x1, x2, x3, hrd, hrl⟩
      obtain ⟨wsa, wsc, hws, _⟩ := hrd
      subst hws
      have HV := Aside.mk hvb
      clear hz x0 x1 x2 x3 hrl hvb
      obtain ⟨o0, o1, o2, o3⟩ : wr.cell? ⟨sb, so + j * 4, none⟩ = some (.int .i64 z.kind) ∧ wr.cell? ⟨sb, so + j * 4 + 1, none⟩ = some (.int .i64 z.v) ∧ wr.cell? ⟨sb, so + j * 4 + 2, none⟩ = some (.int .i64 z.w) ∧ wr.cell? ⟨sb, so + j * 4 + 3, none⟩ = some (.slice wsa (iv z.out).length wsc) :=
        ⟨X.it.g.cell rfl OC.it.c0, X.it.g.cell rfl OC.it.c1, X.it.g.cell rfl OC.it.c2, X.it.g.cell rfl OC.it.c3⟩
      go_upto_region 11 with fail
      have X1 := Aside.mk (X.it.box 11 41 [.int .i64 z.kind, .int .i64 z.v, .int .i64 z.w, .slice wsa (iv z.out).length wsc])
      clear o0 o1 o2 o3 X
      generalize (wr.alloc (.cells #[.int .i64 z.kind, .int .i64 z.v, .int .i64 z.w, .slice wsa (iv z.out).length wsc] 41)) = W1 at X1 ⊢
      generalize give own wr.heap.size 11 = own1 at X1
      generalize wr.heap.size = ob at X1 ⊢
      clear wr own
      have M9 : Aside ((9, wb, 35, [.int .i64 rt, .int .i64 rw, .slice va nl vc]) ∈ (((11, ob, 41, [.int .i64 z.kind, .int .i64 z.v, .int .i64 z.w, .slice wsa (iv z.out).length wsc]) :: (9, wb, 35, [.int .i64 rt, .int .i64 rw, .slice va nl vc]) :: CC) : List Bx)) := ⟨List.mem_cons_of_mem _ (List.mem_cons_self ..)⟩
      have MO : Aside ((11, ob, 41, [.int .i64 z.kind, .int .i64 z.v, .int .i64 z.w, .slice wsa (iv z.out).length wsc]) ∈ (((11, ob, 41, [.int .i64 z.kind, .int .i64 z.v, .int .i64 z.w, .slice wsa (iv z.out).length wsc]) :: (9, wb, 35, [.int .i64 rt, .int .i64 rw, .slice va nl vc]) :: CC) : List Bx)) := ⟨List.mem_cons_self ..⟩
      have MC : Aside (∀ x ∈ CC, x ∈ (((11, ob, 41, [.int .i64 z.kind, .int .i64 z.v, .int .i64 z.w, .slice wsa (iv z.out).length wsc]) :: (9, wb, 35, [.int .i64 rt, .int .i64 rw, .slice va nl vc]) :: CC) : List Bx)) := ⟨fun x hx => List.mem_cons_of_mem _ (List.mem_cons_of_mem _ hx)⟩
      have M1 : Aside (∀ x ∈ (((11, ob, 41, [.int .i64 z.kind, .int .i64 z.v, .int .i64 z.w, .slice wsa (iv z.out).length wsc]) :: (9, wb, 35, [.int .i64 rt, .int .i64 rw, .slice va nl vc]) :: CC) : List Bx), x.1 ≠ 1) := ⟨fun x hx => by
        simp only [List.mem_cons] at hx
        rcases hx with rfl | rfl | hx
        · exact (by decide : (11 : Nat) ≠ 1)
        · exact (by decide : (9 : Nat) ≠ 1)
        · rw [C1.it x hx]; decide⟩
      generalize (((11, ob, 41, [.int .i64 z.kind, .int .i64 z.v, .int .i64 z.w, .slice wsa (iv z.out).length wsc]) :: (9, wb, 35, [.int .i64 rt, .int .i64 rw, .slice va nl vc]) :: CC) : List Bx) = D at X1 M9 MO MC M1
      have HL := Aside.mk X1.it.len
      have k0 := X1.it.cell MO.it 0
      have k1 := X1.it.cell MO.it 1
      have k2 := X1.it.cell MO.it 2
      have k3 := X1.it.cell MO.it 3
      have b0 := X1.it.cell M9.it 0
      have b1 := X1.it.cell M9.it 1
      have b2 := X1.it.cell M9.it 2
      simp only [List.getElem?_cons_zero, List.getElem?_cons_succ] at k0 k1 k2 k3 b0 b1 b2
      by_cases h1 : z.kind = 1
      · rw [h1] at k0
        have HT : Aside (sumW q ≤ rw ∧ rw ≤ 9223372036854775807 ∧ q.length + 1 ≤ 4398046511104) := ⟨HL.it.2.1, HL.it.2.2, by have := HL.it.1; omega⟩
        have DP := Aside.mk (pp_dput X1 HT z.v z.w)
        go_upto_region 18 with (first | (go_at_call 9; refine DP.it.mono ?_; clear DP; rintro e w6 ⟨n0, l, n2, own6, rfl, X6⟩) | fail)
        have X7 := Aside.mk (X6.it.box 12 35 [.int .i64 rt, .int .i64 rw, .slice n0 l n2])
        have N1 : Aside (∀ x ∈ (((12, w6.heap.size, 35, [.int .i64 rt, .int .i64 rw, .slice n0 l n2]) :: D) : List Bx), x.1 ≠ 1) := ⟨fun x hx => by
          rcases List.mem_cons.1 hx with rfl | hx
          · exact (by decide : (12 : Nat) ≠ 1)
          · exact M1.it x hx⟩
        clear X6 X1 k0 k1 k2 k3 b0 b1 b2
        generalize (w6.alloc (.cells #[.int .i64 rt, .int .i64 rw, .slice n0 l n2] 35)) = W7 at X7 ⊢
        generalize give own6 w6.heap.size 12 = own7 at X7
        generalize w6.heap.size = nb at X7 N1 ⊢
        have XD := Aside.mk (X7.it.quiet (Keeps.refl _ _).drew)
        obtain ⟨KZ, hKZ⟩ : ∃ KZ, putK rt rw q z.w = KZ := ⟨_, rfl⟩
        have HKZ := Aside.mk hKZ
        rw [hKZ]
        clear hKZ
        have HT9 : Aside (j ≤ 4398046511103) := ⟨by omega⟩
        have eK : (KZ != KZ) = false := by simp
        have RD : Aside (∀ {own' : Nat → Nat} {W : World} {q' d' : Things} {t' : Nat} {s' : Value}, Aside (Pp A w own' W p rt rw q' t' s' d' ((12, nb, 35, [.int .i64 rt, .int .i64 rw, .slice n0 l n2]) :: D)) → W.cell? ⟨ob, 1, none⟩ = some (.int .i64 z.v) ∧ W.cell? ⟨ob, 2, none⟩ = some (.int .i64 z.w)) := ⟨fun h => ⟨h.it.cell (List.mem_cons_of_mem _ MO.it) 1, h.it.cell (List.mem_cons_of_mem _ MO.it) 2⟩⟩
        go_region_held3 (fun w' => w'.cell? ⟨ob, 1, none⟩ = some (.int .i64 z.v) ∧ w'.cell? ⟨ob, 2, none⟩ = some (.int .i64 z.w)) (exact RD.it (by with_reducible assumption)) (first
          | (go_at_call 11; with_reducible refine (pp_made (by with_reducible assumption) z.v HV).mono ?_; rintro e w8 ⟨rfl, X8⟩)
          | (go_at_call 10; with_reducible refine (pp_put X8 N1 HT9 z.v z.w).mono ?_; rintro e w9 ⟨er, own9, rfl, hc9, X9⟩; rw [HKZ.it] at hc9)
          | (go_at_call 8; with_reducible refine (code_of X9.it.sents hc9).mono ?_; rintro e w10 ⟨rfl, rfl⟩)
          | fail)
        all_goals
          have v0 := X9.it.cell (List.mem_cons_self ..) 0
          have v1 := X9.it.cell (List.mem_cons_self ..) 1
          have v2 := X9.it.cell (List.mem_cons_self ..) 2
          have u0 := X9.it.cell (List.mem_cons_of_mem _ M9.it) 0
          have u1 := X9.it.cell (List.mem_cons_of_mem _ M9.it) 1
          have u2 := X9.it.cell (List.mem_cons_of_mem _ M9.it) 2
          have f0 := X9.it.frz (List.mem_cons_of_mem _ M9.it) 0
          have f1 := X9.it.frz (List.mem_cons_of_mem _ M9.it) 1
          have f2 := X9.it.frz (List.mem_cons_of_mem _ M9.it) 2
          simp only [List.getElem?_cons_zero, List.getElem?_cons_succ] at v0 v1 v2 u0 u1 u2
          go_wp2
          go_roundw
          case rel => exact ⟨j + 1, _, _, own9, by go_num, by omega, ⟨BB.it.put HV.it⟩, ⟨X9.it.next (List.mem_cons_of_mem _ M9.it) (fun x hx => List.mem_cons_of_mem _ (MC.it x hx)) C1.it⟩⟩
          case measure => simp [intOf]; omega
      by_cases h2 : z.kind = 2
      · rw [h2] at k0
        have HT : Aside (q.length ≤ 4398046511104) := ⟨by have := HL.it.1; omega⟩
        have HT9 : Aside (j ≤ 4398046511103) := ⟨by omega⟩
        obtain ⟨hv, hhv⟩ : ∃ hv, (headV q).1 = hv := ⟨_, rfl⟩
        obtain ⟨hw, hhw⟩ : ∃ hw, (headV q).2 = hw := ⟨_, rfl⟩
        obtain ⟨tb, htb⟩ : ∃ tb, hT q = tb := ⟨_, rfl⟩
        obtain ⟨ok, hok⟩ : ∃ ok, (!q.isEmpty) = ok := ⟨_, rfl⟩
        have HW := head_ways q
        have HB := Aside.mk BB.it.head
        rw [hhv] at HB
        simp only [hhv, hhw, htb, hok] at HW
        have DP := pp_dget X1 HT
        simp only [hhv, hhw, hok] at DP
        have DP := Aside.mk DP
        go_upto_region 23 with (first | (go_at_call 12; refine DP.it.mono ?_; clear DP; rintro e w6 ⟨n0, l, n2, own6, rfl, X6⟩) | fail)
        have X7 := Aside.mk ((X6.it.box 12 35 [.int .i64 rt, .int .i64 rw, .slice n0 l n2]).box 13 46 [.int .i64 hv, .int .i64 hw])
        rw [World.size_alloc] at X7
        have N1 : Aside (∀ x ∈ (((13, w6.heap.size + 1, 46, [.int .i64 hv, .int .i64 hw]) :: (12, w6.heap.size, 35, [.int .i64 rt, .int .i64 rw, .slice n0 l n2]) :: D) : List Bx), x.1 ≠ 1) := ⟨fun x hx => by
          simp only [List.mem_cons] at hx
          rcases hx with rfl | rfl | hx
          · exact (by decide : (13 : Nat) ≠ 1)
          · exact (by decide : (12 : Nat) ≠ 1)
          · exact M1.it x hx⟩
        clear X6 X1 k0 k1 k2 k3 b0 b1 b2
        generalize ((w6.alloc (.cells #[.int .i64 rt, .int .i64 rw, .slice n0 l n2] 35)).alloc (.cells #[.int .i64 hv, .int .i64 hw] 46)) = W7 at X7 ⊢
        generalize give (give own6 w6.heap.size 12) (w6.heap.size + 1) 13 = own7 at X7
        generalize w6.heap.size = nb at X7 N1 ⊢
        have GP := pp_get X7 N1 HT9
        simp only [hhv, hhw, hok, htb] at GP
        have GP := Aside.mk GP
        go_upto_region 24 with (first | (go_at_call 13; refine GP.it.mono ?_; clear GP; rintro e w8 ⟨own8, rfl, X8⟩) | fail)
        have X9 := Aside.mk (X8.it.box 14 32 [.string tb, .int .i64 hv])
        have v0 := X9.it.cell (List.mem_cons_self ..) 0
        have v1 := X9.it.cell (List.mem_cons_self ..) 1
        have v2 := X9.it.cell (List.mem_cons_of_mem _ (List.mem_cons_self ..)) 0
        have v3 := X9.it.cell (List.mem_cons_of_mem _ (List.mem_cons_self ..)) 1
        simp only [List.getElem?_cons_zero, List.getElem?_cons_succ] at v0 v1 v2 v3
        have N12 : Aside ((12, nb, 35, [.int .i64 rt, .int .i64 rw, .slice n0 l n2]) ∈ (((14, w8.heap.size, 32, [.string tb, .int .i64 hv]) :: (13, nb + 1, 46, [.int .i64 hv, .int .i64 hw]) :: (12, nb, 35, [.int .i64 rt, .int .i64 rw, .slice n0 l n2]) :: D) : List Bx)) := ⟨List.mem_cons_of_mem _ (List.mem_cons_of_mem _ (List.mem_cons_self ..))⟩
        have N9 : Aside ((9, wb, 35, [.int .i64 rt, .int .i64 rw, .slice va nl vc]) ∈ (((14, w8.heap.size, 32, [.string tb, .int .i64 hv]) :: (13, nb + 1, 46, [.int .i64 hv, .int .i64 hw]) :: (12, nb, 35, [.int .i64 rt, .int .i64 rw, .slice n0 l n2]) :: D) : List Bx)) := ⟨List.mem_cons_of_mem _ (List.mem_cons_of_mem _ (List.mem_cons_of_mem _ M9.it))⟩
        have NC : Aside (∀ x ∈ CC, x ∈ (((14, w8.heap.size, 32, [.string tb, .int .i64 hv]) :: (13, nb + 1, 46, [.int .i64 hv, .int .i64 hw]) :: (12, nb, 35, [.int .i64 rt, .int .i64 rw, .slice n0 l n2]) :: D) : List Bx)) := ⟨fun x hx => List.mem_cons_of_mem _ (List.mem_cons_of_mem _ (List.mem_cons_of_mem _ (MC.it x hx)))⟩
        clear X7 X8 hhv hhw htb hok
        generalize (w8.alloc (.cells #[.string tb, .int .i64 hv] 32)) = W9 at X9 v0 v1 v2 v3 ⊢
        generalize give own8 w8.heap.size 14 = own9 at X9
        generalize w8.heap.size = pb at X9 v0 v1 v2 v3 N12 N9 NC ⊢
        generalize (((14, pb, 32, [.string tb, .int .i64 hv]) :: (13, nb + 1, 46, [.int .i64 hv, .int .i64 hw]) :: (12, nb, 35, [.int .i64 rt, .int .i64 rw, .slice n0 l n2]) :: D) : List Bx) = E at X9 N12 N9 NC
        have MD := Aside.mk (KeW.call (w1 := W9) (fun W kk => Fpair.made_ok (Fpair.powT_later X9.it.pow kk.bel) hv HB.it))
        have c0 := fun n => KeW.cell v0 n
        have c1 := fun n => KeW.cell v1 n
        have c2 := fun n => KeW.cell v2 n
        have c3 := fun n => KeW.cell v3 n
        haveI : Nonempty (KeW W9) := ⟨⟨W9, Keeps.refl _ _⟩⟩
        clear v0 v1 v2 v3
        have ew : ((hw : Int) != hw) = false := by simp
        rcases HW with ⟨ht, hk⟩ | ⟨ht, hk1, hk2, hk⟩
        · subst ht hk
          refine wp_region_quietF (KeW.W (w1 := W9)) (by kernel_rfl) (by kernel_rfl) ⟨W9.drew, (Keeps.refl _ _).drew⟩ rfl ?_
          repeat (go_big_quiet_step (first | (go_at_call 11; exact MD.it _)))
          refine wpQuiet_nil ?_
          rintro _ ⟨n11, rfl⟩
          have Y := Aside.mk (X9.it.quiet n11.ok)
          clear c0 c1 c2 c3 MD X9 this
          generalize n11.W = w11 at *
          have v0 := Y.it.cell N12.it 0
          have v1 := Y.it.cell N12.it 1
          have v2 := Y.it.cell N12.it 2
          have u0 := Y.it.cell N9.it 0
          have u1 := Y.it.cell N9.it 1
          have u2 := Y.it.cell N9.it 2
          have f0 := Y.it.frz N9.it 0
          have f1 := Y.it.frz N9.it 1
          have f2 := Y.it.frz N9.it 2
          simp only [List.getElem?_cons_zero, List.getElem?_cons_succ] at v0 v1 v2 u0 u1 u2
          go_wp2
          go_roundw
          case rel => exact ⟨j + 1, _, _, _, by go_num, by omega, ⟨BB.it.tail⟩, ⟨(Y.it.next N9.it NC.it C1.it).upt⟩⟩
          case measure => simp [intOf]; omega
        · subst ht hk hk1 hk2
          refine wp_region_quietF (KeW.W (w1 := W9)) (by kernel_rfl) (by kernel_rfl) ⟨W9.drew, (Keeps.refl _ _).drew⟩ rfl ?_
          repeat (go_big_quiet_step (first | (go_at_call 11; exact MD.it _)))
          refine wpQuiet_nil ?_
          rintro _ ⟨n11, rfl⟩
          have Y := Aside.mk (X9.it.quiet n11.ok)
          clear c0 c1 c2 c3 MD X9 this
          generalize n11.W = w11 at *
          have v0 := Y.it.cell N12.it 0
          have v1 := Y.it.cell N12.it 1
          have v2 := Y.it.cell N12.it 2
          have u0 := Y.it.cell N9.it 0
          have u1 := Y.it.cell N9.it 1
          have u2 := Y.it.cell N9.it 2
          have f0 := Y.it.frz N9.it 0
          have f1 := Y.it.frz N9.it 1
          have f2 := Y.it.frz N9.it 2
          simp only [List.getElem?_cons_zero, List.getElem?_cons_succ] at v0 v1 v2 u0 u1 u2
          go_wp2
          go_roundw
          case rel => exact ⟨j + 1, _, _, _, by go_num, by omega, ⟨BB.it.tail⟩, ⟨(Y.it.next N9.it NC.it C1.it).upt⟩⟩
          case measure => simp [intOf]; omega
      by_cases h5 : z.kind = 5
      · rw [h5] at k0
        have HT : Aside (q.length ≤ 4398046511104) := ⟨by have := HL.it.1; omega⟩
        have HT9 : Aside (j ≤ 4398046511103) := ⟨by omega⟩
        have RM := Aside.mk (pp_remove X1 M1 HT9 MO z.out ⟨OC.it.r⟩ ⟨OC.it.n⟩)
        go_upto_region 29 with (first | (go_at_call 14; refine RM.it.mono ?_; clear RM; rintro e w6 ⟨own6, rfl, X6⟩) | fail)
        clear k0 k1 k2 k3 b0 b1 b2 X1
        have k3 := X6.it.cell MO.it 3
        have b0 := X6.it.cell M9.it 0
        have b1 := X6.it.cell M9.it 1
        have b2 := X6.it.cell M9.it 2
        simp only [List.getElem?_cons_zero, List.getElem?_cons_succ] at k3 b0 b1 b2
        have DR := Aside.mk (pp_drem X6 HT (.slice wsa (iv z.out).length wsc) z.out (OC.it.r.below X6.it.g.bel) OC.it.n)
        go_upto_region 30 with (first | (go_at_call 17; refine DR.it.mono ?_; clear DR; rintro e w8 ⟨n0, l, n2, own8, rfl, X8⟩) | fail)
        have Y := Aside.mk (X8.it.box 12 35 [.int .i64 rt, .int .i64 rw, .slice n0 l n2])
        clear X6 X8 k3 b0 b1 b2
        generalize (w8.alloc (.cells #[.int .i64 rt, .int .i64 rw, .slice n0 l n2] 35)) = w11 at Y ⊢
        generalize give own8 w8.heap.size 12 = own11 at Y
        generalize w8.heap.size = nb at Y ⊢
        have eg : ((goneN z.out q : Int) != goneN z.out q) = false := by simp
        have v0 := Y.it.cell (List.mem_cons_self ..) 0
        have v1 := Y.it.cell (List.mem_cons_self ..) 1
        have v2 := Y.it.cell (List.mem_cons_self ..) 2
        have u0 := Y.it.cell (List.mem_cons_of_mem _ M9.it) 0
        have u1 := Y.it.cell (List.mem_cons_of_mem _ M9.it) 1
        have u2 := Y.it.cell (List.mem_cons_of_mem _ M9.it) 2
        have f0 := Y.it.frz (List.mem_cons_of_mem _ M9.it) 0
        have f1 := Y.it.frz (List.mem_cons_of_mem _ M9.it) 1
        have f2 := Y.it.frz (List.mem_cons_of_mem _ M9.it) 2
        simp only [List.getElem?_cons_zero, List.getElem?_cons_succ] at v0 v1 v2 u0 u1 u2
        go_wp2
        go_roundw
        case rel => exact ⟨j + 1, _, _, own11, by go_num, by omega, ⟨BB.it.rest _⟩, ⟨(Y.it.next (List.mem_cons_of_mem _ M9.it) (fun x hx => List.mem_cons_of_mem _ (MC.it x hx)) C1.it).upt⟩⟩
        case measure => simp [intOf]; omega
      · have HT : Aside (q.length ≤ 4398046511104) := ⟨by have := HL.it.1; omega⟩
        obtain ⟨hv, hhv⟩ : ∃ hv, (headV q).1 = hv := ⟨_, rfl⟩
        obtain ⟨hw, hhw⟩ : ∃ hw, (headV q).2 = hw := ⟨_, rfl⟩
        obtain ⟨tb, htb⟩ : ∃ tb, hT q = tb := ⟨_, rfl⟩
        obtain ⟨ok, hok⟩ : ∃ ok, (!q.isEmpty) = ok := ⟨_, rfl⟩
        have HW := head_ways q
        have HB := Aside.mk BB.it.head
        rw [hhv] at HB
        simp only [hhv, hhw, htb, hok] at HW
        have HD := pp_head X1
        simp only [hhv, hhw, hok, htb] at HD
        have HD := Aside.mk HD
        go_upto_region 13 with (first | (go_at_call 18; refine HD.it.mono ?_; clear HD; rintro e w6 ⟨rfl, X6⟩) | fail)
        have X7 := Aside.mk (X6.it.box 14 32 [.string tb, .int .i64 hv])
        have MS : Aside (∀ x ∈ (((9, wb, 35, [.int .i64 rt, .int .i64 rw, .slice va nl vc]) :: CC) : List Bx), x ∈ D) := ⟨fun x hx => by
          rcases List.mem_cons.1 hx with rfl | hx
          · exact M9.it
          · exact MC.it x hx⟩
        clear X6 X1 k0 k1 k2 k3 b0 b1 b2
        have b0 := X7.it.cell (List.mem_cons_of_mem _ M9.it) 0
        have b1 := X7.it.cell (List.mem_cons_of_mem _ M9.it) 1
        have b2 := X7.it.cell (List.mem_cons_of_mem _ M9.it) 2
        simp only [List.getElem?_cons_zero, List.getElem?_cons_succ] at b0 b1 b2
        generalize (w6.alloc (.cells #[.string tb, .int .i64 hv] 32)) = W7 at X7 b0 b1 b2 ⊢
        generalize give own1 w6.heap.size 14 = own7 at X7
        generalize w6.heap.size = pb at X7 ⊢
        have DP := pp_dgetQ X7 HT
        simp only [hhv, hhw, hok] at DP
        have DP := Aside.mk DP
        go_upto_region 14 with (first | (go_at_call 12; refine DP.it.mono ?_; clear DP; rintro e w8 ⟨n0, l, n2, rfl, X8⟩) | fail)
        have X9 := Aside.mk ((X8.it.box 12 35 [.int .i64 rt, .int .i64 rw, .slice n0 l n2]).box 13 46 [.int .i64 hv, .int .i64 hw])
        rw [World.size_alloc] at X9
        have v0 := X9.it.cell (List.mem_cons_of_mem _ (List.mem_cons_of_mem _ (List.mem_cons_self ..))) 0
        have v1 := X9.it.cell (List.mem_cons_of_mem _ (List.mem_cons_of_mem _ (List.mem_cons_self ..))) 1
        have v2 := X9.it.cell (List.mem_cons_self ..) 0
        have v3 := X9.it.cell (List.mem_cons_self ..) 1
        simp only [List.getElem?_cons_zero, List.getElem?_cons_succ] at v0 v1 v2 v3
        have NS : Aside (∀ x ∈ (((9, wb, 35, [.int .i64 rt, .int .i64 rw, .slice va nl vc]) :: CC) : List Bx), x ∈ (((13, w8.heap.size + 1, 46, [.int .i64 hv, .int .i64 hw]) :: (12, w8.heap.size, 35, [.int .i64 rt, .int .i64 rw, .slice n0 l n2]) :: (14, pb, 32, [.string tb, .int .i64 hv]) :: D) : List Bx)) := ⟨fun x hx => List.mem_cons_of_mem _ (List.mem_cons_of_mem _ (List.mem_cons_of_mem _ (MS.it x hx)))⟩
        clear X7 X8 hhv hhw htb hok b0 b1 b2
        generalize ((w8.alloc (.cells #[.int .i64 rt, .int .i64 rw, .slice n0 l n2] 35)).alloc (.cells #[.int .i64 hv, .int .i64 hw] 46)) = W9 at X9 v0 v1 v2 v3 ⊢
        generalize give (give own7 w8.heap.size 12) (w8.heap.size + 1) 13 = own9 at X9
        generalize w8.heap.size = nb at X9 v0 v1 v2 v3 NS ⊢
        generalize (((13, nb + 1, 46, [.int .i64 hv, .int .i64 hw]) :: (12, nb, 35, [.int .i64 rt, .int .i64 rw, .slice n0 l n2]) :: (14, pb, 32, [.string tb, .int .i64 hv]) :: D) : List Bx) = E at X9 NS
        have MD := Aside.mk (KeW.call (w1 := W9) (fun W kk => Fpair.made_ok (Fpair.powT_later X9.it.pow kk.bel) hv HB.it))
        have c0 := fun n => KeW.cell v0 n
        have c1 := fun n => KeW.cell v1 n
        have c2 := fun n => KeW.cell v2 n
        have c3 := fun n => KeW.cell v3 n
        haveI : Nonempty (KeW W9) := ⟨⟨W9, Keeps.refl _ _⟩⟩
        clear v0 v1 v2 v3
        have ew : ((hw : Int) != hw) = false := by simp
        rcases HW with ⟨ht, hk⟩ | ⟨ht, hk1, hk2, hk⟩
        · subst ht hk
          refine wp_region_quietF (KeW.W (w1 := W9)) (by kernel_rfl) (by kernel_rfl) ⟨W9.drew, (Keeps.refl _ _).drew⟩ rfl ?_
          repeat (go_big_quiet_step (first | (go_at_call 11; exact MD.it _)))
          refine wpQuiet_nil ?_
          rintro _ ⟨n11, rfl⟩
          have Y := Aside.mk (X9.it.quiet n11.ok)
          clear c0 c1 c2 c3 MD X9 this
          generalize n11.W = w11 at *
          go_wp2
          go_roundw
          case rel => exact ⟨j + 1, _, _, _, by go_num, by omega, BB, ⟨(Y.it.sub NS.it).upt⟩⟩
          case measure => simp [intOf]; omega
        · subst ht hk hk1 hk2
          refine wp_region_quietF (KeW.W (w1 := W9)) (by kernel_rfl) (by kernel_rfl) ⟨W9.drew, (Keeps.refl _ _).drew⟩ rfl ?_
          repeat (go_big_quiet_step (first | (go_at_call 11; exact MD.it _)))
          refine wpQuiet_nil ?_
          rintro _ ⟨n11, rfl⟩
          have Y := Aside.mk (X9.it.quiet n11.ok)
          clear c0 c1 c2 c3 MD X9 this
          generalize n11.W = w11 at *
          go_wp2
          go_roundw
          case rel => exact ⟨j + 1, _, _, _, by go_num, by omega, BB, ⟨(Y.it.sub NS.it).upt⟩⟩
          case measure => simp [intOf]; omega
end Go.Proofs.YtnljgklmaljfjaaDoor

/-
  FifoPairs, at a room that is none
-/
namespace Go.Proofs.YtnljgklmaljfjaaDoor
open Go.RowKit Fint Go.Shelf
attribute [local go_sem] Oper.semAt_some

set_option maxRecDepth 20000 in
set_option maxHeartbeats 8000000 in
theorem fifoPairs_bad {A : Nat → Addr} (t r : Int) (hbad : t < 0 ∨ r < 0) (script : Value) (ops : List OpV3) (w : World) (hs : Sents 129 codeVars A w) (ho : OpsAtP w script ops) :
    Calls Tryd.prog 3 #[.agg #[.int .i64 t, .int .i64 r], script] w fun e w' => e = .returned (.bool true) ∧ Below w.heap.size w w' := by
  obtain ⟨⟨a, c, rfl, hzc, hcm, _⟩, hz24⟩ := ho
  obtain ⟨N, hN⟩ : ∃ N, ops.length = N := ⟨_, rfl⟩
  rw [hN] at hzc hz24 ⊢
  have HS := Aside.mk hs
  have HR := Aside.mk hbad
  clear hs hN hcm hbad
  obtain ⟨w1, hw1⟩ : ∃ w1, w1 = (w.alloc (.cells #[.int .i64 t, .int .i64 r] 23)).alloc (.cells #[.bool false] 4) := ⟨_, rfl⟩
  have K1 : Aside (Keeps Nowhere w w1) := ⟨by rw [hw1]; exact ((Keeps.refl _ _).alloc _).alloc _⟩
  have C4 : Aside (Cells w1 w.heap.size 23 [.int .i64 t, .int .i64 r]) := ⟨by rw [hw1]; exact (Cells.new w _ _).later (S := Nowhere) ((Keeps.refl _ _).alloc _) (fun x => x)⟩
  have C5 : Aside (Cells w1 (w.heap.size + 1) 4 [.bool false]) := ⟨by
    have h := Cells.new (w.alloc (.cells #[.int .i64 t, .int .i64 r] 23)) 4 [.bool false]
    rw [World.size_alloc] at h
    rw [hw1]; exact h⟩
  have WK := Aside.mk (wakes_ok w1 (HS.it.later K1.it.bel))
  refine (callsIn_wide (n := 9)).1 ?_
  refine callsIn_of_wp_marks Tryd.func3 rfl trivial ?_ rfl
  simp only [Tryd.ntmps3, List.size_toArray, List.length_cons, List.length_nil, Nat.reduceAdd, Nat.reduceSub, Array.replicate_succ, Array.replicate_zero, List.push_toArray, List.append_toArray, List.nil_append, List.cons_append]
  refine wpIn_wide.2 ?_
  go_upto_region 1 with fail
  rw [← hw1]
  clear hw1
  go_upto_region 3 with (go_at_call 5; refine WK.it.mono ?_; clear WK; rintro e w2 ⟨rfl, B2⟩)
  have K2 : Aside (Keeps Nowhere w1 w2) := ⟨Keeps.ofBelow B2.it⟩
  clear B2
  have c2 := C4.it.later K2.it (fun x => x)
  have d0 : w2.cell? ⟨w.heap.size, 0, none⟩ = some (.int .i64 t) := by rw [c2.cell]; rfl
  have d1 : w2.cell? ⟨w.heap.size, 1, none⟩ = some (.int .i64 r) := by rw [c2.cell]; rfl
  have C4 := Aside.mk c2
  clear c2
  have NW := Aside.mk (Fpair.new_bad w2 t r _ (((HS.it.later K1.it.bel).later K2.it.bel).cell 1 _ rfl) HR.it)
  go_upto_region 4 with (go_at_call 6; refine NW.it.mono ?_; clear NW; rintro e w3 ⟨rfl, k3⟩)
  have K3 := Aside.mk k3
  clear k3
  have c3 := C4.it.later K3.it (fun x => x)
  have d0 : w3.cell? ⟨w.heap.size, 0, none⟩ = some (.int .i64 t) := by rw [c3.cell]; rfl
  have d1 : w3.cell? ⟨w.heap.size, 1, none⟩ = some (.int .i64 r) := by rw [c3.cell]; rfl
  clear c3
  have DN := Aside.mk (refNew_bad w3 t r HR.it)
  go_upto_region 5 with (first | (go_at_call 7; refine DN.it.mono ?_; clear DN; rintro e w4 ⟨rfl, K4⟩) | fail)
  have C9 := Aside.mk (Cells.new w4 35 [.int .i64 0, .int .i64 0, .slice none 0 0])
  have KQ : Aside (Keeps Nowhere w2 (w4.alloc (.cells #[.int .i64 0, .int .i64 0, .slice none 0 0] 35))) := ⟨(K3.it.trans K4.it).alloc _⟩
  generalize (w4.alloc (.cells #[.int .i64 0, .int .i64 0, .slice none 0 0] 35)) = W5 at C9 KQ ⊢
  generalize w4.heap.size = wb at C9 ⊢
  have K5 := Aside.mk ((K1.it.trans K2.it).trans KQ.it)
  have C5 := Aside.mk ((C5.it.later K2.it (fun x => x)).later KQ.it (fun x => x))
  clear d0 d1 C4 K1 K2 K3 K4 KQ
  go_upto_region 7 with (go_at_call 8; refine (code_of (HS.it.later K5.it.bel) (Coded.mk 1 2 (by decide) (by decide) rfl)).mono ?_; rintro e w5 ⟨rfl, rfl⟩)
  go_upto_region 8 with fail
  refine wp_loop_rounds 1 ?_
  rw [rounds_succ]
  rcases Nat.eq_zero_or_pos N with rfl | hpos
  · go_upto_region 34 with fail
    have C6 := Aside.mk (Cells.new w5 3 [.int .i64 0])
    have KA : Aside (Keeps Nowhere w5 (w5.alloc (.cells #[.int .i64 0] 3))) := ⟨(Keeps.refl _ _).alloc _⟩
    generalize (w5.alloc (.cells #[.int .i64 0] 3)) = W6 at C6 KA ⊢
    generalize w5.heap.size = ib at C6 ⊢
    have AL := Aside.mk (Fpair.all_nil W6)
    go_upto_region 35 with (first | (go_at_call 19; refine AL.it.mono ?_; clear AL; rintro e w4 ⟨bw, rfl, W4, K4⟩) | fail)
    obtain ⟨vw, hwb5, hwv⟩ : ∃ vw, W6.heap.size ≤ bw ∧ w4.cell? ⟨bw, 0, none⟩ = some vw ∧ w4.ownsRow W6.heap.size 81 3 vw 0 (Fpair.flat []) := by
      obtain ⟨b', v', he, h1, h2, h3⟩ := W4.it.it
      injection he with _ _ he
      injection he with he
      injection he with he
      injection he with he
      injection he with he
      injection he with he
      subst he
      exact ⟨v', h1, h2, h3⟩
    have D6 := Aside.mk (C6.it.later K4.it (fun x => x))
    have D9 := Aside.mk ((C9.it.later KA.it (fun x => x)).later K4.it (fun x => x))
    have D5 := Aside.mk ((C5.it.later KA.it (fun x => x)).later K4.it (fun x => x))
    have KW := Aside.mk ((K5.it.trans KA.it).trans K4.it)
    have nn : (binOp BinOp.eql 56 (.func (.func 37) #[] #[.pointer (some ⟨bw, 0, none⟩)]) .nilFunc).run Tryd.prog w4 = .ok (.bool false) w4 := Fpair.walk_not_nil w4 bw
    have HWV := Aside.mk hwv
    clear W4 hwv hwb5 K4 C6 C9 C5 K5 KA
    go_upto_region 37 with fail
    clear nn
    go_wp2_with fail
    refine (wpIn_wide (n := 9)).1 ?_
    have SK : ∀ {W : World}, Keeps (fun k => w4.heap.size + 1 ≤ k) (w4.alloc (.deferred (some []))) W → Keeps (fun k => w4.heap.size ≤ k) w4 W := fun h => ((Keeps.refl (fun k => w4.heap.size ≤ k) w4).alloc _).trans (h.mono (fun k e _ => by omega))
    refine range_outerP (gf := 37) (lb := #[.pointer (some ⟨bw, 0, none⟩)]) rfl (enters_of Tryd.func37 (by kernel_rfl) rfl) (Fpair.all_hands 8 bw vw [] (by decide)) (fun _ => rfl)
      (fun _ W => Keeps (fun k => w4.heap.size + 1 ≤ k) (w4.alloc (.deferred (some []))) W)
      (fun _ _ _ => False) ?h0 ?hq ?hw ?hp (fun _ _ _ _ _ h _ => h) ?a1 (fun x pb W => Cells W pb 32 [.string (Fpair.txt x.1), .int .i64 x.1]) ?hBp ?assign ?body ?done (fun _ _ _ _ h => h.elim)
    case h0 =>
      intro r
      exact (Keeps.refl _ _).alloc _
    case hq =>
      intro pre A' B' h hk
      exact h.trans hk.any
    case hw =>
      intro pre A' h
      have hk := SK h
      have hlt := World.block_lt_of_cell? w4 _ HWV.it.1
      refine ⟨?_, owns_later (owns_any HWV.it.2) hk (fun b hb e => by have := owns_lt HWV.it.2 b hb; omega)⟩
      rw [World.cell?_of_block (w := w4) (hk.block bw hlt (fun e => by have : w4.heap.size ≤ bw := e; have : bw < w4.heap.size := hlt; omega))]
      exact HWV.it.1
    case hp =>
      intro pre A' r r' h hl
      exact h.trans ((putObj_keeps A' _ _).mono (fun k e _ => by rw [e]; exact Nat.le_refl _))
    case hBp =>
      intro x pb W r r' hc hl
      refine hc.later (putObj_keeps W _ _) (fun e => ?_)
      unfold Cells at hc
      rw [e, hl] at hc
      cases hc
    case assign =>
      intro x W K hK
      gi_wp2
      have hK' := fun pb => hK pb _ ((Keeps.refl _ _).alloc (.cells #[.string (Fpair.txt x.1), .int .i64 x.1] 32))
      have hc := Cells.new W 32 [.string (Fpair.txt x.1), .int .i64 x.1]
      revert hc
      generalize W.heap.size = pb
      intro hc
      exact hK' pb hc
    case body =>
      intro pre x W rec pb hc h hpre hx
      simp at hx
    case done =>
      intro W h
      have hk := SK h
      have x6 := D6.it.later hk (fun e => by have := D6.it.lt; omega)
      have x9 := D9.it.later hk (fun e => by have := D9.it.lt; omega)
      have x5 := D5.it.later hk (fun e => by have := D5.it.lt; omega)
      have ci : W.cell? ⟨ib, 0, none⟩ = some (.int .i64 0) := by rw [x6.cell]; rfl
      have cq : W.cell? ⟨wb, 2, none⟩ = some (.slice none 0 0) := by rw [x9.cell]; rfl
      have t6 : W.cell? ⟨w.heap.size + 1, 0, none⟩ = some (.bool false) := by rw [x5.cell]; rfl
      have z6 := x5.frozen 0
      have hD : Aside (W.heap[w4.heap.size]? = some (.deferred (some []))) := ⟨(h.block w4.heap.size (by simp) (fun e => by omega)).trans (World.alloc_heap_new w4 _)⟩
      have HX := Aside.mk x5
      have HK := Aside.mk hk
      clear x6 x9 x5 h hk
      dsimp only
      go_wp2_with fail
      have t0 : w4.heap.size ≠ w.heap.size + 1 := fun e => by have := D5.it.lt; omega
      have ks : Keeps (fun k => k = w.heap.size + 1) W (W.setCell ⟨w.heap.size + 1, 0, none⟩ (.bool true)) := (Keeps.refl _ W).setCell ⟨w.heap.size + 1, 0, none⟩ (.bool true) (fun _ => rfl)
      have k0 := putObj_keeps (W.setCell ⟨w.heap.size + 1, 0, none⟩ (.bool true)) w4.heap.size (.deferred none)
      have q0 := (ks.block _ (Array.getElem?_eq_some_iff.1 hD.it).1 t0).trans hD.it
      have qc : ((W.setCell ⟨w.heap.size + 1, 0, none⟩ (.bool true)).putObj w4.heap.size (.deferred none)).cell? ⟨w.heap.size + 1, 0, none⟩ = some (.bool true) := by
        rw [((HX.it.setCell 0 (.bool true)).later k0 (fun e => t0 e.symm)).cell]; rfl
      refine ⟨by simp, .inl ⟨_, _, rfl, run_takeDeferred q0, ?_⟩⟩
      refine ⟨.bool true, ?_, rfl, ?_⟩
      · simp [results, Tryd.f3, go_sem, qc]
      · have kk : Keeps (fun k => w.heap.size ≤ k) w ((W.setCell ⟨w.heap.size + 1, 0, none⟩ (.bool true)).putObj w4.heap.size (.deferred none)) := by
          refine (((KW.it.any.trans (HK.it.mono (fun k e _ => by have := KW.it.size; omega)))).trans (ks.mono (fun k e _ => by omega))).trans (k0.mono (fun k e _ => by have := KW.it.size; omega))
        exact (kk.mono (S' := Nowhere) (fun k e hlt => by omega)).bel
  · have hpos' : (0 : Int) < N := by omega
    go_upto_region 34 with fail
    have C6 := Aside.mk (Cells.new w5 3 [.int .i64 0])
    have KA : Aside (Keeps Nowhere w5 (w5.alloc (.cells #[.int .i64 0] 3))) := ⟨(Keeps.refl _ _).alloc _⟩
    generalize (w5.alloc (.cells #[.int .i64 0] 3)) = W6 at C6 KA ⊢
    generalize w5.heap.size = ib at C6 ⊢
    have AL := Aside.mk (Fpair.all_nil W6)
    go_upto_region 35 with (first | (go_at_call 19; refine AL.it.mono ?_; clear AL; rintro e w4 ⟨bw, rfl, W4, K4⟩) | fail)
    obtain ⟨vw, hwb5, hwv⟩ : ∃ vw, W6.heap.size ≤ bw ∧ w4.cell? ⟨bw, 0, none⟩ = some vw ∧ w4.ownsRow W6.heap.size 81 3 vw 0 (Fpair.flat []) := by
      obtain ⟨b', v', he, h1, h2, h3⟩ := W4.it.it
      injection he with _ _ he
      injection he with he
      injection he with he
      injection he with he
      injection he with he
      injection he with he
      subst he
      exact ⟨v', h1, h2, h3⟩
    have D6 := Aside.mk (C6.it.later K4.it (fun x => x))
    have D9 := Aside.mk ((C9.it.later KA.it (fun x => x)).later K4.it (fun x => x))
    have D5 := Aside.mk ((C5.it.later KA.it (fun x => x)).later K4.it (fun x => x))
    have KW := Aside.mk ((K5.it.trans KA.it).trans K4.it)
    have nn : (binOp BinOp.eql 56 (.func (.func 37) #[] #[.pointer (some ⟨bw, 0, none⟩)]) .nilFunc).run Tryd.prog w4 = .ok (.bool false) w4 := Fpair.walk_not_nil w4 bw
    have HWV := Aside.mk hwv
    clear W4 hwv hwb5 K4 C6 C9 C5 K5 KA
    go_upto_region 37 with fail
    clear nn
    go_wp2_with fail
    refine (wpIn_wide (n := 9)).1 ?_
    have SK : ∀ {W : World}, Keeps (fun k => w4.heap.size + 1 ≤ k) (w4.alloc (.deferred (some []))) W → Keeps (fun k => w4.heap.size ≤ k) w4 W := fun h => ((Keeps.refl (fun k => w4.heap.size ≤ k) w4).alloc _).trans (h.mono (fun k e _ => by omega))
    refine range_outerP (gf := 37) (lb := #[.pointer (some ⟨bw, 0, none⟩)]) rfl (enters_of Tryd.func37 (by kernel_rfl) rfl) (Fpair.all_hands 8 bw vw [] (by decide)) (fun _ => rfl)
      (fun _ W => Keeps (fun k => w4.heap.size + 1 ≤ k) (w4.alloc (.deferred (some []))) W)
      (fun _ _ _ => False) ?h0 ?hq ?hw ?hp (fun _ _ _ _ _ h _ => h) ?a1r (fun x pb W => Cells W pb 32 [.string (Fpair.txt x.1), .int .i64 x.1]) ?hBp ?assign ?body ?done (fun _ _ _ _ h => h.elim)
    case h0 =>
      intro r
      exact (Keeps.refl _ _).alloc _
    case hq =>
      intro pre A' B' h hk
      exact h.trans hk.any
    case hw =>
      intro pre A' h
      have hk := SK h
      have hlt := World.block_lt_of_cell? w4 _ HWV.it.1
      refine ⟨?_, owns_later (owns_any HWV.it.2) hk (fun b hb e => by have := owns_lt HWV.it.2 b hb; omega)⟩
      rw [World.cell?_of_block (w := w4) (hk.block bw hlt (fun e => by have : w4.heap.size ≤ bw := e; have : bw < w4.heap.size := hlt; omega))]
      exact HWV.it.1
    case hp =>
      intro pre A' r r' h hl
      exact h.trans ((putObj_keeps A' _ _).mono (fun k e _ => by rw [e]; exact Nat.le_refl _))
    case hBp =>
      intro x pb W r r' hc hl
      refine hc.later (putObj_keeps W _ _) (fun e => ?_)
      unfold Cells at hc
      rw [e, hl] at hc
      cases hc
    case assign =>
      intro x W K hK
      gi_wp2
      have hK' := fun pb => hK pb _ ((Keeps.refl _ _).alloc (.cells #[.string (Fpair.txt x.1), .int .i64 x.1] 32))
      have hc := Cells.new W 32 [.string (Fpair.txt x.1), .int .i64 x.1]
      revert hc
      generalize W.heap.size = pb
      intro hc
      exact hK' pb hc
    case body =>
      intro pre x W rec pb hc h hpre hx
      simp at hx
    case done =>
      intro W h
      have hk := SK h
      have x6 := D6.it.later hk (fun e => by have := D6.it.lt; omega)
      have x9 := D9.it.later hk (fun e => by have := D9.it.lt; omega)
      have x5 := D5.it.later hk (fun e => by have := D5.it.lt; omega)
      have ci : W.cell? ⟨ib, 0, none⟩ = some (.int .i64 0) := by rw [x6.cell]; rfl
      have cq : W.cell? ⟨wb, 2, none⟩ = some (.slice none 0 0) := by rw [x9.cell]; rfl
      have t6 : W.cell? ⟨w.heap.size + 1, 0, none⟩ = some (.bool false) := by rw [x5.cell]; rfl
      have z6 := x5.frozen 0
      have hD : Aside (W.heap[w4.heap.size]? = some (.deferred (some []))) := ⟨(h.block w4.heap.size (by simp) (fun e => by omega)).trans (World.alloc_heap_new w4 _)⟩
      have HX := Aside.mk x5
      have HK := Aside.mk hk
      clear x6 x9 x5 h hk
      dsimp only
      go_wp2_with fail
      have t0 : w4.heap.size ≠ w.heap.size + 1 := fun e => by have := D5.it.lt; omega
      have ks : Keeps (fun k => k = w.heap.size + 1) W (W.setCell ⟨w.heap.size + 1, 0, none⟩ (.bool true)) := (Keeps.refl _ W).setCell ⟨w.heap.size + 1, 0, none⟩ (.bool true) (fun _ => rfl)
      have k0 := putObj_keeps (W.setCell ⟨w.heap.size + 1, 0, none⟩ (.bool true)) w4.heap.size (.deferred none)
      have q0 := (ks.block _ (Array.getElem?_eq_some_iff.1 hD.it).1 t0).trans hD.it
      have qc : ((W.setCell ⟨w.heap.size + 1, 0, none⟩ (.bool true)).putObj w4.heap.size (.deferred none)).cell? ⟨w.heap.size + 1, 0, none⟩ = some (.bool true) := by
        rw [((HX.it.setCell 0 (.bool true)).later k0 (fun e => t0 e.symm)).cell]; rfl
      refine ⟨by simp, .inl ⟨_, _, rfl, run_takeDeferred q0, ?_⟩⟩
      refine ⟨.bool true, ?_, rfl, ?_⟩
      · simp [results, Tryd.f3, go_sem, qc]
      · have kk : Keeps (fun k => w.heap.size ≤ k) w ((W.setCell ⟨w.heap.size + 1, 0, none⟩ (.bool true)).putObj w4.heap.size (.deferred none)) := by
          refine (((KW.it.any.trans (HK.it.mono (fun k e _ => by have := KW.it.size; omega)))).trans (ks.mono (fun k e _ => by omega))).trans (k0.mono (fun k e _ => by have := KW.it.size; omega))
        exact (kk.mono (S' := Nowhere) (fun k e hlt => by omega)).bel
end Go.Proofs.YtnljgklmaljfjaaDoor

/-
  FifoPairs
-/
namespace Go.Proofs.YtnljgklmaljfjaaDoor
open Go.RowKit Fint

theorem fifoPairs_walk {A : Nat → Addr} (room : Value) (z : RoomZ) (script : Value) (ops : List OpV3) (w : World) (hsp : Sents 129 codeVars A w ∧ Fpair.PowT w) (hr : RoomAt w room z) (ho : OpsAtP w script ops) :
    Calls Tryd.prog 3 #[room, script] w fun e w' => e = .returned (.bool true) ∧ Below w.heap.size w w' := by
  obtain ⟨rfl, h1, h2⟩ := hr
  by_cases hb : z.t < 0 ∨ z.r < 0
  · exact fifoPairs_bad z.t z.r hb script ops w hsp.1 ho
  · obtain ⟨t, ht⟩ : ∃ t : Nat, z.t = t := ⟨z.t.toNat, by omega⟩
    obtain ⟨r, hr⟩ : ∃ r : Nat, z.r = r := ⟨z.r.toNat, by omega⟩
    rw [ht, hr]
    exact fifoPairs_good t r (by omega) (by omega) script ops w hsp.1 hsp.2 ho
end Go.Proofs.YtnljgklmaljfjaaDoor

