/-
  TableWalk
-/
import Derived.Test.YtcdgmbaimbmdmaaDoorTwA
import Derived.Deep.RegionHeld3
import Derived.Laws.EntriesVeiled
import Derived.Deep.DeepCutAuto
import Derived.Sort.CutIn
namespace Go.Proofs.YtcdgmbaimbmdmaaDoor
open Go.RowKit Tbint Go.Shelf
attribute [local go_sem] Oper.semAt_some

set_option maxRecDepth 20000 in
set_option maxHeartbeats 8000000 in
theorem tableWalk_walk {A : Nat → Addr} (s1 : Value) (zs : List OpV15) (s2 : Value) (ys : List OpV15) (stop : Int) (w : World) (hs : Sents 110 codeVars A w) (hz : Ops15Arg w s1 zs) (hy : Ops15Arg w s2 ys) :
    Calls Tryd.prog 3 #[s1, s2, .int .i64 stop] w fun e w' => e = .returned (.bool true) ∧ Below w.heap.size w w' := by
  obtain ⟨hz', hz24⟩ := hz
  obtain ⟨a, c, rfl, hzc, hcm, hzr⟩ := id hz'
  have hop := ops_at hz'
  obtain ⟨hy', hy24⟩ := hy
  obtain ⟨a2, c2, rfl, hyc, hcm2, hyr⟩ := id hy'
  have hop2 := ops_at hy'
  clear hz' hy' hzr hyr
  obtain ⟨N, hN⟩ : ∃ N, zs.length = N := ⟨_, rfl⟩
  obtain ⟨M, hM⟩ : ∃ M, ys.length = M := ⟨_, rfl⟩
  have HN := Aside.mk hN
  have HM := Aside.mk hM
  have HOP := Aside.mk hop
  have HOP2 := Aside.mk hop2
  rw [hN] at hzc hz24 ⊢
  rw [hM] at hyc hy24 ⊢
  have HS := Aside.mk hs
  clear hs hN hM hop hop2 hcm hcm2
  obtain ⟨w1, hw1⟩ : ∃ w1, w1 = ((w.alloc (.cells #[.slice a2 M c2] 22)).alloc (.cells #[.int .i64 stop] 3)).alloc (.cells #[.bool false] 4) := ⟨_, rfl⟩
  have K1 : Aside (Keeps Nowhere w w1) := ⟨by rw [hw1]; exact (((Keeps.refl _ _).alloc _).alloc _).alloc _⟩
  have C4 : Aside (Cells w1 w.heap.size 22 [.slice a2 M c2]) := ⟨by rw [hw1]; exact (Cells.new w _ _).later (S := Nowhere) (((Keeps.refl _ _).alloc _).alloc _) (fun x => x)⟩
  have C5 : Aside (Cells w1 (w.heap.size + 1) 3 [.int .i64 stop]) := ⟨by
    have h := Cells.new (w.alloc (.cells #[.slice a2 M c2] 22)) 3 [.int .i64 stop]
    rw [World.size_alloc] at h
    rw [hw1]; exact h.later (S := Nowhere) ((Keeps.refl _ _).alloc _) (fun x => x)⟩
  have C6 : Aside (Cells w1 (w.heap.size + 1 + 1) 4 [.bool false]) := ⟨by
    have h := Cells.new ((w.alloc (.cells #[.slice a2 M c2] 22)).alloc (.cells #[.int .i64 stop] 3)) 4 [.bool false]
    rw [World.size_alloc, World.size_alloc] at h
    rw [hw1]; exact h⟩
  have WK := Aside.mk (wakes15 (HS.it.later K1.it.bel))
  refine (callsIn_wide (n := 9)).1 ?_
  refine callsIn_of_wp_marks Tryd.func3 rfl trivial ?_ rfl
  simp only [Tryd.ntmps3, List.size_toArray, List.length_cons, List.length_nil, Nat.reduceAdd, Nat.reduceSub, Array.replicate_succ, Array.replicate_zero, List.push_toArray, List.append_toArray, List.nil_append, List.cons_append]
  refine wpIn_wide.2 ?_
  go_upto_region 1 with fail
  rw [← hw1]
  clear hw1
  go_upto_region 3 with (go_at_call 4; refine WK.it.mono ?_; clear WK; rintro e w2 ⟨rfl, K2⟩)
  have NW := Aside.mk (new_ok 1048576 (by decide) w2 (give (fun _ => 0) w.heap.size 6) 1)
  go_upto_region 4 with (go_at_call 5; refine NW.it.mono ?_; clear NW; rintro e w3 ⟨p, own3, rfl, X3⟩)
  have DN := dnew 1048576 (w3.alloc (.cells #[.pointer (some ⟨p, 0, none⟩)] 24))
  rw [if_neg (by decide), if_neg (by decide)] at DN
  have DN := Aside.mk DN
  obtain ⟨W3, hW3⟩ : ∃ W3, w3.alloc (.cells #[.pointer (some ⟨p, 0, none⟩)] 24) = W3 := ⟨_, rfl⟩
  have C7 : Aside (Cells W3 w3.heap.size 24 [.pointer (some ⟨p, 0, none⟩)]) := ⟨by rw [← hW3]; exact Cells.new w3 _ _⟩
  have KW3 : Aside (Keeps Nowhere w3 W3) := ⟨by rw [← hW3]; exact (Keeps.refl _ _).alloc _⟩
  rw [hW3] at DN ⊢
  have c7 : W3.cell? ⟨w3.heap.size, 0, none⟩ = some (.pointer (some ⟨p, 0, none⟩)) := by rw [C7.it.cell]; rfl
  clear hW3
  go_upto_region 7 with (first | (go_at_call 6; refine DN.it.mono ?_; clear DN; rintro e w4 ⟨rfl, K4⟩) | fail)
  obtain ⟨b7, hb7⟩ : ∃ b7, w3.heap.size = b7 := ⟨_, rfl⟩
  obtain ⟨wb, hwb⟩ : ∃ wb, w4.heap.size = wb := ⟨_, rfl⟩
  obtain ⟨CC, hCC⟩ : ∃ CC : List Bx, CC = [(6, b7, 24, [.pointer (some ⟨p, 0, none⟩)]), (6, w.heap.size + 1 + 1, 4, [.bool false]), (6, w.heap.size + 1, 3, [.int .i64 stop]), (6, w.heap.size, 22, [.slice a2 M c2])] := ⟨_, rfl⟩
  obtain ⟨own5, P5⟩ : ∃ own5, Aside (F1 A w own5 (w4.alloc (.cells #[.int .i64 1048576, .slice none 0 0] 31)) p [] (.slice none 0 0) ((7, wb, 31, [.int .i64 1048576, .slice none 0 0]) :: CC)) := by
    have s2 : Sn (fun _ => False) (fun _ => 0) w (give (fun _ => 0) w.heap.size 6) w2 := Sn.quiet (K1.it.trans K2.it) 6
    have s3 := X3.it.2.2
    have s4 : Sn (fun _ => False) own3 w3 (give own3 w3.heap.size 6) W3 := Sn.quiet KW3.it 6
    have s5 : Sn (fun _ => False) (give own3 w3.heap.size 6) W3 (give (give own3 w3.heap.size 6) W3.heap.size 7) (w4.alloc (.cells #[.int .i64 1048576, .slice none 0 0] 31)) := Sn.quiet (K4.it.alloc _) 7
    have G2 := (OnG.start HS.it).sn s2 (fun x => x)
    have up : ∀ {nb : Nat} {t : TypeId} {cs : List Value}, CellsO (give (fun _ => 0) w.heap.size 6) 6 w2 nb t cs → CellsO (give (give own3 w3.heap.size 6) W3.heap.size 7) 6 (w4.alloc (.cells #[.int .i64 1048576, .slice none 0 0] 31)) nb t cs := fun h => ((h.sn s3 (fun x => x)).sn s4 (fun x => x)).sn s5 (fun x => x)
    refine ⟨_, ⟨((G2.sn s3 (fun x => x)).sn s4 (fun x => x)).sn s5 (fun x => x), ⟨(X3.it.1.sn s4 (fun x => x)).sn s5 (fun x => x), RdD.nil _ _⟩, fun x hx => ?_⟩⟩
    rcases List.mem_cons.1 hx with rfl | hx
    · rw [← hwb]
      exact ⟨Cells.new w4 _ _, give_new K4.it.size⟩
    rw [hCC] at hx
    simp only [List.mem_cons, List.not_mem_nil, or_false] at hx
    rcases hx with rfl | rfl | rfl | rfl
    · rw [← hb7]
      exact (show CellsO (give own3 w3.heap.size 6) 6 W3 w3.heap.size 24 [.pointer (some ⟨p, 0, none⟩)] from ⟨C7.it, give_new (Nat.le_refl _)⟩).sn s5 (fun x => x)
    · exact up ⟨C6.it.later K2.it (fun x => x), give_new (show w.heap.size ≤ w.heap.size + 1 + 1 by omega)⟩
    · exact up ⟨C5.it.later K2.it (fun x => x), give_new (show w.heap.size ≤ w.heap.size + 1 by omega)⟩
    · exact up ⟨C4.it.later K2.it (fun x => x), give_new (Nat.le_refl _)⟩
  rw [hb7, hwb]
  generalize (w4.alloc (.cells #[.int .i64 1048576, .slice none 0 0] 31)) = W5 at P5 ⊢
  have M7 : Aside ((6, b7, 24, [.pointer (some ⟨p, 0, none⟩)]) ∈ CC) := ⟨by rw [hCC]; simp⟩
  have M6 : Aside ((6, w.heap.size + 1 + 1, 4, [.bool false]) ∈ CC) := ⟨by rw [hCC]; simp⟩
  have M5 : Aside ((6, w.heap.size + 1, 3, [.int .i64 stop]) ∈ CC) := ⟨by rw [hCC]; simp⟩
  have M4 : Aside ((6, w.heap.size, 22, [.slice a2 M c2]) ∈ CC) := ⟨by rw [hCC]; simp⟩
  have C1 : Aside (∀ x ∈ CC, x.1 = 6) := ⟨by rw [hCC]; intro x hx; simp only [List.mem_cons, List.not_mem_nil, or_false] at hx; rcases hx with rfl | rfl | rfl | rfl <;> rfl⟩
  clear hCC hb7 hwb c7 C4 C5 C6 C7 X3 K1 K2 K4 KW3
  go_upto_region 8 with fail
  go_loopw [11, 12, 13] (fun v _ _ wr => ∃ (j : Nat) (q : Tl Int) (s : Value) (own : Nat → Nat), v = .int .i64 j ∧ j ≤ N ∧ Aside (F1 A w own wr p q s ((7, wb, 31, [.int .i64 1048576, s]) :: CC))) (fun v _ _ _ => N - (intOf v).toNat)
  case atStart => exact ⟨0, [], _, own5, rfl, Nat.zero_le _, P5⟩
  case round =>
    clear P5
    obtain ⟨j, q, s, own, rfl, hj, X⟩ := hrel
    obtain ⟨va, vc, hs, hvc⟩ := X.it.slc
    subst hs
    obtain ⟨nl, hnl⟩ : ∃ nl, q.length = nl := ⟨_, rfl⟩
    have HNL := Aside.mk hnl
    rw [hnl] at X hvc
    clear hnl
    have b0 := X.it.cell (List.mem_cons_self ..) 0
    have b1 := X.it.cell (List.mem_cons_self ..) 1
    have b7c := X.it.cell (List.mem_cons_of_mem _ M7.it) 0
    simp only [List.getElem?_cons_zero, List.getElem?_cons_succ] at b0 b1 b7c
    rcases Nat.eq_or_lt_of_le hj with rfl | hlt
    · have hnl6 : nl ≤ 4294967296 := by rw [← HNL.it]; exact X.it.len
      have AL := Aside.mk (all_at X.it.both.t)
      go_upto_region 15 with (first | (go_at_call 8; refine AL.it.mono ?_; clear AL; rintro e w4 ⟨bi, bs, rfl, W4, K4⟩) | fail)
      obtain ⟨vi, vs, hbi, hbs, hwi, hws, hri, hrs⟩ := W4.it.it
      have R4 : Aside (Fr A w (give own wr.heap.size 5) w4 p q (.slice va nl vc) ((7, wb, 31, [.int .i64 1048576, .slice va nl vc]) :: CC) bi bs vi vs q (.slice va nl vc) []) := ⟨by
        have x4 := X.it.step K4.it 5
        exact ⟨x4, ⟨hwi, hws, owns_any hri, owns_any hrs⟩, ⟨give_new hbi, give_new hbs, fun k hk => give_new (owns_base hri k hk), fun k hk => give_new (owns_base hrs k hk)⟩, x4.both.d, fun D hD => by cases hD⟩⟩
      have R5 := Aside.mk (R4.it.box 6 40 [.func (.func 24) #[] #[.pointer (some ⟨bi, 0, none⟩), .pointer (some ⟨bs, 0, none⟩)]])
      have nn : ∀ W : World, (binOp BinOp.eql 40 (.func (.func 24) #[] #[.pointer (some ⟨bi, 0, none⟩), .pointer (some ⟨bs, 0, none⟩)]) .nilFunc).run Tryd.prog W = .ok (.bool false) W := fun W => walk_not_nil W bi bs
      have e0 := R5.it.x.cell (List.mem_cons_of_mem _ (List.mem_cons_self ..)) 0
      have e1 := R5.it.x.cell (List.mem_cons_of_mem _ (List.mem_cons_self ..)) 1
      have e3 := R5.it.x.cell (List.mem_cons_self ..) 0
      simp only [List.getElem?_cons_zero, List.getElem?_cons_succ] at e0 e1 e3
      clear b0 b1 b7c X W4 hwi hws hri hrs hbi hbs R4
      generalize (w4.alloc (.cells #[.func (.func 24) #[] #[.pointer (some ⟨bi, 0, none⟩), .pointer (some ⟨bs, 0, none⟩)]] 40)) = W5 at R5 e0 e1 e3 ⊢
      generalize give (give own wr.heap.size 5) w4.heap.size 6 = own5 at R5
      generalize w4.heap.size = bF at R5 e3 ⊢
      go_upto_region 16 with fail
      have R6 := Aside.mk (R5.it.box 6 29 [.slice va nl vc])
      have e4 := R6.it.x.cell (List.mem_cons_of_mem _ (List.mem_cons_self ..)) 0
      simp only [List.getElem?_cons_zero] at e4
      clear e0 e1 e3 R5
      generalize (W5.alloc (.cells #[.slice va nl vc] 29)) = W6 at R6 e4 ⊢
      generalize give own5 W5.heap.size 6 = own6 at R6
      generalize W5.heap.size = bS at R6 ⊢
      have nn6 := nn W6
      go_upto_region 19 with fail
      clear nn nn6 e4
      obtain ⟨KK, hKK⟩ : ∃ KK : List Bx, KK = (6, bS, 29, [.slice va nl vc]) :: (6, bF, 40, [.func (.func 24) #[] #[.pointer (some ⟨bi, 0, none⟩), .pointer (some ⟨bs, 0, none⟩)]]) :: CC := ⟨_, rfl⟩
      have R8 : Aside (Fr A w (give own6 W6.heap.size 11) (W6.alloc (.cells #[.int .i64 0] 3)) p q (.slice va nl vc) ((11, W6.heap.size, 3, [.int .i64 0]) :: (7, wb, 31, [.int .i64 1048576, .slice va nl vc]) :: KK) bi bs vi vs q (.slice va nl vc) []) := ⟨by
        refine (R6.it.box 11 3 [.int .i64 0]).sub (fun x hx => ?_)
        rw [hKK] at hx
        simp only [List.mem_cons] at hx ⊢
        rcases hx with h | h | h | h | h
        · exact .inl h
        · exact .inr (.inr (.inr (.inl h)))
        · exact .inr (.inl h)
        · exact .inr (.inr (.inl h))
        · exact .inr (.inr (.inr (.inr h)))⟩
      have MS : Aside ((6, bS, 29, [.slice va nl vc]) ∈ KK) := ⟨by rw [hKK]; simp⟩
      have MF : Aside ((6, bF, 40, [.func (.func 24) #[] #[.pointer (some ⟨bi, 0, none⟩), .pointer (some ⟨bs, 0, none⟩)]]) ∈ KK) := ⟨by rw [hKK]; simp⟩
      have N7 : Aside ((6, b7, 24, [.pointer (some ⟨p, 0, none⟩)]) ∈ KK) := ⟨by rw [hKK]; simp [M7.it]⟩
      have N6 : Aside ((6, w.heap.size + 1 + 1, 4, [.bool false]) ∈ KK) := ⟨by rw [hKK]; simp [M6.it]⟩
      have N5 : Aside ((6, w.heap.size + 1, 3, [.int .i64 stop]) ∈ KK) := ⟨by rw [hKK]; simp [M5.it]⟩
      have N4 : Aside ((6, w.heap.size, 22, [.slice a2 M c2]) ∈ KK) := ⟨by rw [hKK]; simp [M4.it]⟩
      have K1 : Aside (∀ x ∈ KK, x.1 = 6) := ⟨by rw [hKK]; intro x hx; rcases List.mem_cons.1 hx with rfl | hx; rfl; rcases List.mem_cons.1 hx with rfl | hx; rfl; exact C1.it x hx⟩
      clear hKK R6 M7 M6 M5 M4 C1 HOP
      generalize (W6.alloc (.cells #[.int .i64 0] 3)) = W8 at R8 ⊢
      generalize give own6 W6.heap.size 11 = own8 at R8
      generalize W6.heap.size = rb at R8 ⊢
      refine wp_loop_rounds 4 ?_
      rw [rounds_succ]
      have r0 := R8.it.x.cell (List.mem_cons_self ..) 0
      have f8 := R8.it.x.cell (List.mem_cons_of_mem _ (List.mem_cons_of_mem _ MF.it)) 0
      simp only [List.getElem?_cons_zero] at r0 f8
      go_upto_region 22 with fail
      have R9 := Aside.mk (R8.it.box 12 3 [.int .i64 0])
      have f0 := R9.it.x.cell (List.mem_cons_of_mem _ (List.mem_cons_of_mem _ (List.mem_cons_of_mem _ MF.it))) 0
      simp only [List.getElem?_cons_zero] at f0
      clear r0 f8 R8
      generalize (W8.alloc (.cells #[.int .i64 0] 3)) = W9 at R9 f0 ⊢
      generalize give own8 W8.heap.size 12 = own9 at R9
      generalize W8.heap.size = ib at R9 ⊢
      go_wp2_with fail
      refine (wpIn_wide (n := 9)).1 ?_
      refine range_break (b := 4) (gf := 24) (lb := #[.pointer (some ⟨bi, 0, none⟩), .pointer (some ⟨bs, 0, none⟩)]) rfl (enters_of Tryd.func24 (by kernel_rfl) rfl) (all_hands 8 bi bs vi vs q (by rw [HNL.it]; omega)) (fun _ => rfl)
        (fun pre W => ∃ own q' s', Fr A w own W p q' s' ((12, ib, 3, [.int .i64 pre.length]) :: (11, rb, 3, [.int .i64 0]) :: (7, wb, 31, [.int .i64 1048576, s']) :: KK) bi bs vi vs q (.slice va nl vc) [W9.heap.size] ∧ own (W9.heap.size + 1) = 14)
        (fun _ => False) (fun W => ∃ own q' s' i, Fr A w own W p q' s' ((12, ib, 3, [.int .i64 i]) :: (11, rb, 3, [.int .i64 0]) :: (7, wb, 31, [.int .i64 1048576, s']) :: KK) bi bs vi vs q (.slice va nl vc) [W9.heap.size] ∧ i = nl) ?h0 ?hq ?hw ?hp ?hpx ?a1 ?assign ?body ?h1 ?h2 (fun _ h => h) ?hcont
      case h0 =>
        intro r
        obtain ⟨own', h1, h2⟩ := R9.it.enter r
        exact ⟨own', _, _, h1, h2⟩
      case hq =>
        rintro pre A' B' ⟨own, q', s', h, ho⟩ hk
        exact ⟨own, q', s', h.quiet hk, ho⟩
      case hw =>
        rintro pre A' ⟨own, q', s', h, ho⟩
        exact h.wk
      case hp =>
        rintro pre A' r r' ⟨own, q', s', h, ho⟩ hl
        refine ⟨own, q', s', h.put ho (by decide) (fun x hx => ?_), ho⟩
        simp only [List.mem_cons] at hx
        rcases hx with rfl | rfl | rfl | hx
        · exact (by decide : (12 : Nat) ≠ 14)
        · exact (by decide : (11 : Nat) ≠ 14)
        · exact (by decide : (7 : Nat) ≠ 14)
        · rw [K1.it x hx]; decide
      case assign =>
        intro x W K hK
        gi_wp2
        exact hK
      case hpx => exact fun _ _ _ h _ => h.elim
      case h1 =>
        rintro W ⟨own, q', s', h, ho⟩
        exact ⟨own, q', s', _, h, by rw [HNL.it]⟩
      case h2 => exact fun _ h => h.elim
      case body =>
        rintro pre x W rec ⟨own, q', s', R, hlo⟩ hpre hx hrec
        have hlt : pre.length < nl := by rw [← HNL.it]; exact (List.getElem?_eq_some_iff.1 hx).1
        obtain ⟨k, hk⟩ : ∃ k, pre.length = k := ⟨_, rfl⟩
        rw [hk] at R hx hlt
        have Rj := Aside.mk (R.box 13 3 [.int .i64 0])
        have f1 := Rj.it.x.cell (List.mem_cons_of_mem _ (List.mem_cons_of_mem _ (List.mem_cons_of_mem _ (List.mem_cons_of_mem _ MF.it)))) 0
        simp only [List.getElem?_cons_zero] at f1
        have HK := Aside.mk (And.intro hk (And.intro hlo (And.intro hx hrec)))
        have R0 := Aside.mk R
        clear R hk hlo hx hrec hpre
        gi_wp2_with fail
        have hl0 : Aside ((W.alloc (.cells #[.int .i64 0] 3)).heap[W9.heap.size + 1]? = some (.loop rec)) := ⟨quiet_block HK.it.2.2.2 ((Keeps.refl _ _).alloc _)⟩
        have hlj : Aside (give own W.heap.size 13 (W9.heap.size + 1) = 14) := ⟨(give_old (Array.getElem?_eq_some_iff.1 HK.it.2.2.2).1).trans HK.it.2.1⟩
        generalize (W.alloc (.cells #[.int .i64 0] 3)) = Wj at Rj f1 hl0 ⊢
        generalize give own W.heap.size 13 = ownj at Rj hlj
        generalize W.heap.size = jb at Rj ⊢
        have hll : Aside (W9.heap.size + 1 < Wj.heap.size) := ⟨(Array.getElem?_eq_some_iff.1 hl0.it).1⟩
        refine range_inner (l₀ := W9.heap.size + 1) (r₀ := rec) hl0.it (gf := 24) (lb := #[.pointer (some ⟨bi, 0, none⟩), .pointer (some ⟨bs, 0, none⟩)]) rfl (enters_of Tryd.func24 (by kernel_rfl) rfl) (all_hands _ bi bs vi vs q (by rw [HNL.it]; omega)) (fun _ => rfl)
          (fun pre2 W2 => pre2.length ≤ k ∧ ∃ own2, Fr A w own2 W2 p q' s' ((13, jb, 3, [.int .i64 pre2.length]) :: (12, ib, 3, [.int .i64 k]) :: (11, rb, 3, [.int .i64 0]) :: (7, wb, 31, [.int .i64 1048576, s']) :: KK) bi bs vi vs q (.slice va nl vc) [W9.heap.size] ∧ own2 (W9.heap.size + 1) = 14 ∧ own2 Wj.heap.size = 16 ∧ W2.heap[W9.heap.size + 1]? = some (.loop rec))
          (fun cc _ W2 => cc = .exit 6 ∧ ∃ own2, Fr A w own2 W2 p q' s' ((12, ib, 3, [.int .i64 k]) :: (11, rb, 3, [.int .i64 0]) :: (7, wb, 31, [.int .i64 1048576, s']) :: KK) bi bs vi vs q (.slice va nl vc) [W9.heap.size] ∧ own2 (W9.heap.size + 1) = 14 ∧ own2 Wj.heap.size = 16 ∧ W2.heap[W9.heap.size + 1]? = some (.loop rec)) ?h02 ?hq2 ?hw2 ?hp2 ?hpx2 ?a12 ?assign2 ?body2 ?done2 ?stop2
        case h02 =>
          intro r
          refine ⟨Nat.zero_le _, _, Rj.it.enter2 r, (give_old hll.it).trans hlj.it, give_new (Nat.le_refl _), quiet_block hl0.it ((Keeps.refl _ _).alloc _)⟩
        case hq2 =>
          rintro pre2 A' B' ⟨h1, own2, h2, h3, h4, h5⟩ hk
          exact ⟨h1, own2, h2.quiet hk, h3, h4, quiet_block h5 hk⟩
        case hw2 =>
          rintro pre2 A' ⟨_, own2, h2, _⟩
          exact h2.wk
        case hp2 =>
          rintro pre2 A' r r' ⟨h1, own2, h2, h3, h4, h5⟩ hl
          refine ⟨h1, own2, h2.put h4 (by decide) (fun x hx => ?_), h3, h4, (World.putObj_heap_other (by have := hll.it; omega)).trans h5⟩
          simp only [List.mem_cons] at hx
          rcases hx with rfl | rfl | rfl | rfl | hx
          · exact (by decide : (13 : Nat) ≠ 16)
          · exact (by decide : (12 : Nat) ≠ 16)
          · exact (by decide : (11 : Nat) ≠ 16)
          · exact (by decide : (7 : Nat) ≠ 16)
          · rw [K1.it x hx]; decide
        case hpx2 =>
          rintro cc pre2 A' r r' ⟨h1, own2, h2, h3, h4, h5⟩ hl
          refine ⟨h1, own2, h2.put h4 (by decide) (fun x hx => ?_), h3, h4, (World.putObj_heap_other (by have := hll.it; omega)).trans h5⟩
          simp only [List.mem_cons] at hx
          rcases hx with rfl | rfl | rfl | hx
          · exact (by decide : (12 : Nat) ≠ 16)
          · exact (by decide : (11 : Nat) ≠ 16)
          · exact (by decide : (7 : Nat) ≠ 16)
          · rw [K1.it x hx]; decide
        case assign2 =>
          intro x W K hK
          gi_wp2
          exact hK
        case done2 =>
          rintro W2 ⟨h1, _⟩
          rw [HNL.it] at h1
          omega
        case body2 =>
          rintro pre2 x2 W2 r2 ⟨h1, own2, h2, h3, h4, h5⟩ _ hx2 hr2
          obtain ⟨m, hm⟩ : ∃ m, pre2.length = m := ⟨_, rfl⟩
          rw [hm] at h1 h2 hx2
          obtain ⟨sa, sc, sg, hse, hsl, rfl, y0, y1⟩ := was_at h2 hx2
          injection hse with e1 e2 e3
          subst e1 e3
          clear e2
          have cj := h2.x.cell (List.mem_cons_self ..) 0
          have fj := h2.x.frz (List.mem_cons_self ..) 0
          have ci := h2.x.cell (List.mem_cons_of_mem _ (List.mem_cons_self ..)) 0
          have cs2 := h2.x.cell (List.mem_cons_of_mem _ (List.mem_cons_of_mem _ (List.mem_cons_of_mem _ (List.mem_cons_of_mem _ MS.it)))) 0
          simp only [List.getElem?_cons_zero] at cj ci cs2
          have hml : (m : Int) < nl := by omega
          have hmd : decide ((nl : Int) ≤ m) = false := decide_eq_false (by omega)
          have hml2 : ¬ (nl : Int) ≤ m := by omega
          have hm0 : (0 : Int) ≤ m := by omega
          have exx : ((x2.1 : Int) != x2.1) = false := by simp
          have H2 := Aside.mk (And.intro h2 (And.intro h3 (And.intro h4 h5)))
          have HM2 := Aside.mk hm
          clear h2 h3 h4 h5 hx2 hr2 hm Rj R0 f1
          rcases Nat.eq_or_lt_of_le h1 with rfl | hmk
          · have emm : ((m : Int) == m) = true := by simp
            gi_wp2
            exact ⟨rfl, rfl, _, H2.it.1.sub (fun x hx => List.mem_cons_of_mem _ hx), H2.it.2.1, H2.it.2.2.1, H2.it.2.2.2⟩
          · have emk : ((m : Int) == k) = false := beq_eq_false_iff_ne.2 (by omega)
            gi_wp2
            have hjo : own2 jb = 13 := (H2.it.1.x.c _ (List.mem_cons_self ..)).2
            have n1 : Wj.heap.size ≠ jb := fun e => by have := H2.it.2.2.1; rw [e, hjo] at this; cases this
            have n2 : W9.heap.size + 1 ≠ jb := fun e => by have := H2.it.2.1; rw [e, hjo] at this; cases this
            have wr1 := H2.it.1.write (cs' := [.int .i64 ((m : Int) + 1)]) (fun x hx => by
              simp only [List.mem_cons] at hx
              rcases hx with rfl | rfl | rfl | hx
              · exact (by decide : (12 : Nat) ≠ 13)
              · exact (by decide : (11 : Nat) ≠ 13)
              · exact (by decide : (7 : Nat) ≠ 13)
              · rw [K1.it x hx]; decide) (by decide) ((Keeps.refl (fun k => k = jb) W2).setCell ⟨jb, 0, none⟩ (.int .i64 ((m : Int) + 1)) (fun _ => rfl)) ((H2.it.1.x.c _ (List.mem_cons_self ..)).1.setCell 0 (.int .i64 ((m : Int) + 1)))
            refine ⟨Below.heap_setCell W2 _ _ _ n1, by rw [List.length_append, HM2.it]; exact hmk, own2, ?_, H2.it.2.1, H2.it.2.2.1, (Below.heap_setCell W2 _ _ _ n2).trans H2.it.2.2.2⟩
            rw [List.length_append, HM2.it]
            exact wr1.1
        case stop2 =>
          rintro cc pre2 W2 _ ⟨rfl, own2, h2, h3, _, h5⟩
          obtain ⟨sa, sc, sg, hse, hsl, rfl, y0, y1⟩ := was_at h2 HK.it.2.2.1
          injection hse with e1 e2 e3
          subst e1 e3
          clear e2
          have ci := h2.x.cell (List.mem_cons_self ..) 0
          have fi := h2.x.frz (List.mem_cons_self ..) 0
          have cr := h2.x.cell (List.mem_cons_of_mem _ (List.mem_cons_self ..)) 0
          have cs2 := h2.x.cell (List.mem_cons_of_mem _ (List.mem_cons_of_mem _ (List.mem_cons_of_mem _ MS.it))) 0
          have ca := h2.x.cell (List.mem_cons_of_mem _ (List.mem_cons_of_mem _ (List.mem_cons_of_mem _ N4.it))) 0
          simp only [List.getElem?_cons_zero] at ci cr cs2 ca
          have hkl : (k : Int) < nl := by omega
          have hmd : decide ((nl : Int) ≤ k) = false := decide_eq_false (by omega)
          have hml2 : ¬ (nl : Int) ≤ k := by omega
          have hm0 : (0 : Int) ≤ k := by omega
          have exx : ((x.1 : Int) != x.1) = false := by simp
          have eyy : (x.2 != x.2) = false := by simp
          have H2 := Aside.mk (And.intro h2 (And.intro h3 h5))
          clear h2 h3 h5 Rj R0 f1
          by_cases hkM : k < M
          · have hkd : decide ((k : Int) < M) = true := decide_eq_true (by omega)
            have hkM' : (k : Int) < M := by omega
            obtain ⟨z, hz⟩ : ∃ z, ys[k]? = some z := ⟨_, List.getElem?_eq_getElem (by rw [HM.it]; exact hkM)⟩
            obtain ⟨sb, so, rfl, oc⟩ := HOP2.it k z hz
            have OC := Aside.mk oc
            clear hz oc
            gi_upto_region 35 with fail
            have P7 : Aside ((6, b7, 24, [.pointer (some ⟨p, 0, none⟩)]) ∈ (((12, ib, 3, [.int .i64 k]) :: (11, rb, 3, [.int .i64 0]) :: (7, wb, 31, [.int .i64 1048576, s']) :: KK) : List Bx)) := ⟨List.mem_cons_of_mem _ (List.mem_cons_of_mem _ (List.mem_cons_of_mem _ N7.it))⟩
            have PB : Aside ((7, wb, 31, [.int .i64 1048576, s']) ∈ (((12, ib, 3, [.int .i64 k]) :: (11, rb, 3, [.int .i64 0]) :: (7, wb, 31, [.int .i64 1048576, s']) :: KK) : List Bx)) := ⟨List.mem_cons_of_mem _ (List.mem_cons_of_mem _ (List.mem_cons_self ..))⟩
            have PA : Aside ((6, w.heap.size, 22, [.slice (some ⟨sb, so, none⟩) M c2]) ∈ (((12, ib, 3, [.int .i64 k]) :: (11, rb, 3, [.int .i64 0]) :: (7, wb, 31, [.int .i64 1048576, s']) :: KK) : List Bx)) := ⟨List.mem_cons_of_mem _ (List.mem_cons_of_mem _ (List.mem_cons_of_mem _ N4.it))⟩
            have PI : Aside ((12, ib, 3, [.int .i64 k]) ∈ (((12, ib, 3, [.int .i64 k]) :: (11, rb, 3, [.int .i64 0]) :: (7, wb, 31, [.int .i64 1048576, s']) :: KK) : List Bx)) := ⟨List.mem_cons_self ..⟩
            have P1 : Aside (∀ x ∈ (((12, ib, 3, [.int .i64 k]) :: (11, rb, 3, [.int .i64 0]) :: (7, wb, 31, [.int .i64 1048576, s']) :: KK) : List Bx), x.1 ≠ 1) := ⟨fun x hx => by
              simp only [List.mem_cons] at hx
              rcases hx with rfl | rfl | rfl | hx
              · exact (by decide : (12 : Nat) ≠ 1)
              · exact (by decide : (11 : Nat) ≠ 1)
              · exact (by decide : (7 : Nat) ≠ 1)
              · rw [K1.it x hx]; decide⟩
            have D2 : Aside (Fr A w own2 W2.drew p q' s' ((12, ib, 3, [.int .i64 k]) :: (11, rb, 3, [.int .i64 0]) :: (7, wb, 31, [.int .i64 1048576, s']) :: KK) bi bs vi vs q (.slice (some ⟨sg, 0, none⟩) nl vc) [W9.heap.size]) := ⟨H2.it.1.quiet (Keeps.refl _ _).drew⟩
            have E2 : Aside (Fr A w (give own2 W2.heap.size 20) (W2.alloc (.cells #[.int .i64 0, .slice none 0 0] 31)).drew p q' s' ((20, W2.heap.size, 31, [.int .i64 0, .slice none 0 0]) :: ((12, ib, 3, [.int .i64 k]) :: (11, rb, 3, [.int .i64 0]) :: (7, wb, 31, [.int .i64 1048576, s']) :: KK)) bi bs vi vs q (.slice (some ⟨sg, 0, none⟩) nl vc) [W9.heap.size]) := ⟨(H2.it.1.box 20 31 [.int .i64 0, .slice none 0 0]).quiet (Keeps.refl _ _).drew⟩
            refine wpIn_region_held (S := (fun w' => (w'.cell? ⟨b7, 0, none⟩ = some (.pointer (some ⟨p, 0, none⟩)) ∧ w'.cell? ⟨wb, 0, none⟩ = some (.int .i64 1048576) ∧ w'.cell? ⟨wb, 1, none⟩ = some s' ∧ w'.cell? ⟨sb, so + k * 3, none⟩ = some (.int .i64 z.kind) ∧ w'.cell? ⟨sb, so + k * 3 + 1, none⟩ = some (.int .u32 (z.id : Nat)) ∧ w'.cell? ⟨sb, so + k * 3 + 2, none⟩ = some (.int .i64 z.v)) ∧ w'.cell? ⟨w.heap.size, 0, none⟩ = some (.slice (some ⟨sb, so, none⟩) M c2) ∧ w'.cell? ⟨ib, 0, none⟩ = some (.int .i64 k))) (by kernel_rfl) (by kernel_rfl) (Fr.rd35 P7 PB PA PI OC D2) (fun hHeld => ?_)
            refine wpAnyH_take (i := 0) (v := ?_) rfl (by kernel_rfl) (by kernel_rfl) (by kernel_rfl) (fun _ _ _ h => h) (Or.inl ⟨by rfl, ?_⟩) (by assumption) ?_
            rotate_left 1
            · intro w hSw; (try dsimp only at hSw); go_simp
              with_reducible rfl
            simp only [List.getElem_toArray, List.getElem_cons_zero, Act.put, List.setIfInBounds_toArray, List.set_cons_zero, List.set_cons_succ]
            refine wpAnyH_take (i := 1) (v := ?_) rfl (by kernel_rfl) (by kernel_rfl) (by kernel_rfl) (fun _ _ _ h => h) (Or.inl ⟨by rfl, ?_⟩) (by assumption) ?_
            rotate_left 1
            · intro w hSw; (try dsimp only at hSw); go_simp
              with_reducible rfl
            simp only [List.getElem_toArray, List.getElem_cons_zero, List.getElem_cons_succ, Act.put, List.setIfInBounds_toArray, List.set_cons_zero, List.set_cons_succ]
            refine wpAnyH_take (i := 2) (v := ?_) rfl (by kernel_rfl) (by kernel_rfl) (by kernel_rfl) (fun _ _ _ h => h) (Or.inl ⟨by rfl, ?_⟩) (by assumption) ?_
            rotate_left 1
            · intro w hSw; (try dsimp only at hSw); go_simp
              with_reducible rfl
            simp only [List.getElem_toArray, List.getElem_cons_zero, List.getElem_cons_succ, Act.put, List.setIfInBounds_toArray, List.set_cons_zero, List.set_cons_succ]
            refine wpAnyH_take (i := 3) (v := ?_) rfl (by kernel_rfl) (by kernel_rfl) (by kernel_rfl) (fun _ _ _ h => h) (Or.inl ⟨by rfl, ?_⟩) (by assumption) ?_
            rotate_left 1
            · intro w hSw; (try dsimp only at hSw); go_simp
              with_reducible rfl
            simp only [List.getElem_toArray, List.getElem_cons_zero, List.getElem_cons_succ, Act.put, List.setIfInBounds_toArray, List.set_cons_zero, List.set_cons_succ]
            refine wpAnyH_take (i := 4) (v := ?_) rfl (by kernel_rfl) (by kernel_rfl) (by kernel_rfl) (fun _ _ _ h => h) (Or.inl ⟨by rfl, ?_⟩) (by assumption) ?_
            rotate_left 1
            · intro w hSw; (try dsimp only at hSw); go_simp
              with_reducible rfl
            simp only [List.getElem_toArray, List.getElem_cons_zero, List.getElem_cons_succ, Act.put, List.setIfInBounds_toArray, List.set_cons_zero, List.set_cons_succ]
            refine wpAnyH_take (i := 5) (v := ?_) rfl (by kernel_rfl) (by kernel_rfl) (by kernel_rfl) (fun _ _ _ h => h) (Or.inl ⟨by rfl, ?_⟩) (by assumption) ?_
            rotate_left 1
            · intro w hSw; (try dsimp only at hSw); go_simp
              with_reducible rfl
            simp only [List.getElem_toArray, List.getElem_cons_zero, List.getElem_cons_succ, Act.put, List.setIfInBounds_toArray, List.set_cons_zero, List.set_cons_succ]
            refine wpAnyH_ready (rs := [6, 10]) (by kernel_rfl) (by simp) ?_
            refine AllReadyH.cons rfl (fun K hK => ?_) ?_
            · simp only [List.getElem_toArray, List.getElem_cons_zero, List.getElem_cons_succ]
              go_simp
              refine (fr_stepA OC P1 D2).mono ?_
              rintro e w6 ⟨qa, ql, qc, q6, own6, rfl, X6, N6⟩
              refine hK.out _ _ (Fr.rd35 P7 PB PA PI OC X6) (fun hHeld => ?_)
              clear hK K
              refine wpAnyH_take (i := 7) (v := ?_) rfl (by kernel_rfl) (by kernel_rfl) (by kernel_rfl) (fun _ _ _ h => h) (Or.inl ⟨by rfl, ?_⟩) (by assumption) ?_
              rotate_left 1
              · intro w hSw; (try dsimp only at hSw); go_simp
                with_reducible rfl
              simp only [List.getElem_toArray, List.getElem_cons_zero, List.getElem_cons_succ, Act.put, List.setIfInBounds_toArray, List.set_cons_zero, List.set_cons_succ]
              refine wpAnyH_take (i := 8) (v := ?_) rfl (by kernel_rfl) (by kernel_rfl) (by kernel_rfl) (fun _ _ _ h => h) (Or.inl ⟨by rfl, ?_⟩) (by assumption) ?_
              rotate_left 1
              · intro w hSw; (try dsimp only at hSw); go_simp
                with_reducible rfl
              simp only [List.getElem_toArray, List.getElem_cons_zero, List.getElem_cons_succ, Act.put, List.setIfInBounds_toArray, List.set_cons_zero, List.set_cons_succ]
              refine wpAnyH_take (i := 9) (v := ?_) rfl (by kernel_rfl) (by kernel_rfl) (by kernel_rfl) (fun _ _ _ h => h) (Or.inl ⟨by rfl, ?_⟩) (by assumption) ?_
              rotate_left 1
              · intro w hSw; (try dsimp only at hSw); go_simp
                with_reducible rfl
              simp only [List.getElem_toArray, List.getElem_cons_zero, List.getElem_cons_succ, Act.put, List.setIfInBounds_toArray, List.set_cons_zero, List.set_cons_succ]
              refine wpAnyH_ready (rs := [10]) (by kernel_rfl) (by simp) ?_
              refine AllReadyH.cons rfl (fun K hK => ?_) AllReadyH.nil
              simp only [List.getElem_toArray, List.getElem_cons_zero, List.getElem_cons_succ]
              go_simp
              have X7 := Aside.mk (X6.it.box 20 31 [.int .i64 0, .slice none 0 0])
              refine hK.out _ _ (Fr.rd35 ⟨List.mem_cons_of_mem _ P7.it⟩ ⟨List.mem_cons_of_mem _ PB.it⟩ ⟨List.mem_cons_of_mem _ PA.it⟩ ⟨List.mem_cons_of_mem _ PI.it⟩ OC X7) (fun hHeld => ?_)
              clear hK K
              refine wpAnyH_ready (rs := [11]) (by kernel_rfl) (by simp) ?_
              refine AllReadyH.cons rfl (fun K hK => ?_) AllReadyH.nil
              simp only [List.getElem_toArray, List.getElem_cons_zero, List.getElem_cons_succ]
              go_simp
              have X8 := Aside.mk (X6.it.box 20 31 [.int .i64 1048576, .slice qa ql qc])
              refine hK.out _ _ (Fr.rd35 ⟨List.mem_cons_of_mem _ P7.it⟩ ⟨List.mem_cons_of_mem _ PB.it⟩ ⟨List.mem_cons_of_mem _ PA.it⟩ ⟨List.mem_cons_of_mem _ PI.it⟩ OC X8) (fun hHeld => ?_)
              clear hK K
              refine wpAnyH_take (i := 12) (v := ?_) rfl (by kernel_rfl) (by kernel_rfl) (by kernel_rfl) (fun _ _ _ h => h) (Or.inl ⟨by rfl, ?_⟩) (by assumption) ?_
              rotate_left 1
              · intro w hSw; (try dsimp only at hSw); go_simp
                with_reducible rfl
              simp only [List.getElem_toArray, List.getElem_cons_zero, List.getElem_cons_succ, Act.put, List.setIfInBounds_toArray, List.set_cons_zero, List.set_cons_succ]
              refine wpAnyH_done (by kernel_rfl) ?_ _
              have LL := Aside.mk (show give own6 w6.heap.size 20 (W9.heap.size + 1) = 14 ∧ (w6.alloc (.cells #[.int .i64 1048576, .slice qa ql qc] 31)).heap[W9.heap.size + 1]? = some (.loop rec) by
                have h := sn_record (ob := .loop rec) N6.it H2.it.2.1 (by decide) H2.it.2.2
                exact ⟨(give_old (Array.getElem?_eq_some_iff.1 h.2).1).trans h.1, quiet_block h.2 ((Keeps.refl _ _).alloc _)⟩)
              have L8 : Aside (give own6 w6.heap.size 20 (W9.heap.size + 1) = 14 ∧ ((w6.alloc (.cells #[.int .i64 1048576, .slice qa ql qc] 31))).heap[W9.heap.size + 1]? = some (.loop rec)) := LL
              generalize (w6.alloc (.cells #[.int .i64 1048576, .slice qa ql qc] 31)) = W7 at X8 L8 ⊢
              generalize give own6 w6.heap.size 20 = own8 at X8 L8
              generalize w6.heap.size = nb at X8 ⊢
              obtain ⟨n0, n1, _, _⟩ := F1.res20 ⟨X8.it.x⟩
              have v0 := X8.it.x.cell (List.mem_cons_of_mem _ PB.it) 0
              have v1 := X8.it.x.cell (List.mem_cons_of_mem _ PB.it) 1
              have z0 := X8.it.x.frz (List.mem_cons_of_mem _ PB.it) 0
              have z1 := X8.it.x.frz (List.mem_cons_of_mem _ PB.it) 1
              simp only [List.getElem?_cons_zero, List.getElem?_cons_succ] at v0 v1
              obtain ⟨F8, G8⟩ := fin38 (y0 := .int .i64 1048576) (y1 := .slice qa ql qc) X8.it K1.it L8.it.1 L8.it.2
              have F8 := Aside.mk F8
              have G8 := Aside.mk G8
              clear X8 X6 D2 E2 N6 hHeld ci cr cs2 ca y0 y1 fi
              unfold Only
              gi_upto_region 39 with fail
              generalize ((W7.setCell ⟨wb, 0, none⟩ (.int .i64 1048576)).setCell ⟨wb, 1, none⟩ (.slice qa ql qc)) = W8 at F8 G8 ⊢
              have ci := F8.it.x.cell (List.mem_cons_self ..) 0
              have fi := F8.it.x.frz (List.mem_cons_self ..) 0
              have cr := F8.it.x.cell (List.mem_cons_of_mem _ (List.mem_cons_self ..)) 0
              simp only [List.getElem?_cons_zero] at ci cr
              obtain ⟨F9, G9⟩ := fin39 F8.it K1.it L8.it.1 G8.it (.int .i64 ((k : Int) + 1))
              have F9 := Aside.mk F9
              have G9 := Aside.mk G9
              clear F8 G8 n0 n1 v0 v1 z0 z1
              gi_upto_region 40 with fail
              clear ci cr fi
              generalize (W8.setCell ⟨ib, 0, none⟩ (.int .i64 ((k : Int) + 1))) = W10 at F9 G9 ⊢
              have ci := F9.it.x.cell (List.mem_cons_self ..) 0
              have cr := F9.it.x.cell (List.mem_cons_of_mem _ (List.mem_cons_self ..)) 0
              simp only [List.getElem?_cons_zero] at ci cr
              gi_wp2
              refine ⟨G9.it.trans HK.it.2.2.2.symm, own8, q6, .slice qa ql qc, ?_, L8.it.1⟩
              rw [List.length_append, HK.it.1]
              exact F9.it
            · refine AllReadyH.cons rfl (fun K hK => ?_) AllReadyH.nil
              simp only [List.getElem_toArray, List.getElem_cons_zero, List.getElem_cons_succ]
              go_simp
              refine hK.out _ _ (Fr.rd35 ⟨List.mem_cons_of_mem _ P7.it⟩ ⟨List.mem_cons_of_mem _ PB.it⟩ ⟨List.mem_cons_of_mem _ PA.it⟩ ⟨List.mem_cons_of_mem _ PI.it⟩ OC E2) (fun hHeld => ?_)
              clear hK K
              have P1n : Aside (∀ x ∈ ((20, W2.heap.size, 31, [.int .i64 0, .slice none 0 0]) :: ((12, ib, 3, [.int .i64 k]) :: (11, rb, 3, [.int .i64 0]) :: (7, wb, 31, [.int .i64 1048576, s']) :: KK) : List Bx), x.1 ≠ 1) := ⟨fun x hx => by rcases List.mem_cons.1 hx with rfl | hx; exact (by decide : (20 : Nat) ≠ 1); exact P1.it x hx⟩
              refine wpAnyH_ready (rs := [6]) (by kernel_rfl) (by simp) ?_
              refine AllReadyH.cons rfl (fun K hK => ?_) AllReadyH.nil
              simp only [List.getElem_toArray, List.getElem_cons_zero, List.getElem_cons_succ]
              go_simp
              refine (fr_stepA OC P1n E2).mono ?_
              rintro e w6 ⟨qa, ql, qc, q6, own6, rfl, X6, N6⟩
              refine hK.out _ _ (Fr.rd35 ⟨List.mem_cons_of_mem _ P7.it⟩ ⟨List.mem_cons_of_mem _ PB.it⟩ ⟨List.mem_cons_of_mem _ PA.it⟩ ⟨List.mem_cons_of_mem _ PI.it⟩ OC X6) (fun hHeld => ?_)
              clear hK K
              refine wpAnyH_take (i := 7) (v := ?_) rfl (by kernel_rfl) (by kernel_rfl) (by kernel_rfl) (fun _ _ _ h => h) (Or.inl ⟨by rfl, ?_⟩) (by assumption) ?_
              rotate_left 1
              · intro w hSw; (try dsimp only at hSw); go_simp
                with_reducible rfl
              simp only [List.getElem_toArray, List.getElem_cons_zero, List.getElem_cons_succ, Act.put, List.setIfInBounds_toArray, List.set_cons_zero, List.set_cons_succ]
              refine wpAnyH_take (i := 8) (v := ?_) rfl (by kernel_rfl) (by kernel_rfl) (by kernel_rfl) (fun _ _ _ h => h) (Or.inl ⟨by rfl, ?_⟩) (by assumption) ?_
              rotate_left 1
              · intro w hSw; (try dsimp only at hSw); go_simp
                with_reducible rfl
              simp only [List.getElem_toArray, List.getElem_cons_zero, List.getElem_cons_succ, Act.put, List.setIfInBounds_toArray, List.set_cons_zero, List.set_cons_succ]
              refine wpAnyH_take (i := 9) (v := ?_) rfl (by kernel_rfl) (by kernel_rfl) (by kernel_rfl) (fun _ _ _ h => h) (Or.inl ⟨by rfl, ?_⟩) (by assumption) ?_
              rotate_left 1
              · intro w hSw; (try dsimp only at hSw); go_simp
                with_reducible rfl
              simp only [List.getElem_toArray, List.getElem_cons_zero, List.getElem_cons_succ, Act.put, List.setIfInBounds_toArray, List.set_cons_zero, List.set_cons_succ]
              obtain ⟨m0, m1, m2, m3⟩ := F1.res20 ⟨X6.it.x⟩
              refine wpAnyH_ready (rs := [11]) (by kernel_rfl) (by simp) ?_
              refine AllReadyH.cons rfl (fun K hK => ?_) AllReadyH.nil
              simp only [List.getElem_toArray, List.getElem_cons_zero, List.getElem_cons_succ]
              go_simp
              have hs3 := set2b (y0 := .int .i64 1048576) (y1 := .slice qa ql qc) (X6.it.x.c _ (List.mem_cons_self ..)).1
              have P20 : ∀ x ∈ (((12, ib, 3, [.int .i64 k]) :: (11, rb, 3, [.int .i64 0]) :: (7, wb, 31, [.int .i64 1048576, s']) :: KK) : List Bx), x.1 ≠ 20 := fun x hx => by
                simp only [List.mem_cons] at hx
                rcases hx with rfl | rfl | rfl | hx
                · exact (by decide : (12 : Nat) ≠ 20)
                · exact (by decide : (11 : Nat) ≠ 20)
                · exact (by decide : (7 : Nat) ≠ 20)
                · rw [K1.it x hx]; decide
              obtain ⟨X8, N8⟩ := X6.it.write P20 (by decide) hs3.1 hs3.2
              have X8 := Aside.mk X8
              refine hK.out _ _ (Fr.rd35 ⟨List.mem_cons_of_mem _ P7.it⟩ ⟨List.mem_cons_of_mem _ PB.it⟩ ⟨List.mem_cons_of_mem _ PA.it⟩ ⟨List.mem_cons_of_mem _ PI.it⟩ OC X8) (fun hHeld => ?_)
              clear hK K m0 m1 m2 m3 P20
              refine wpAnyH_take (i := 12) (v := ?_) rfl (by kernel_rfl) (by kernel_rfl) (by kernel_rfl) (fun _ _ _ h => h) (Or.inl ⟨by rfl, ?_⟩) (by assumption) ?_
              rotate_left 1
              · intro w hSw; (try dsimp only at hSw); go_simp
                with_reducible rfl
              simp only [List.getElem_toArray, List.getElem_cons_zero, List.getElem_cons_succ, Act.put, List.setIfInBounds_toArray, List.set_cons_zero, List.set_cons_succ]
              refine wpAnyH_done (by kernel_rfl) ?_ _
              have LL := Aside.mk (show own6 (W9.heap.size + 1) = 14 ∧ ((w6.setCell ⟨W2.heap.size, 0, none⟩ (.int .i64 1048576)).setCell ⟨W2.heap.size, 1, none⟩ (.slice qa ql qc)).heap[W9.heap.size + 1]? = some (.loop rec) by
                have hlt := (Array.getElem?_eq_some_iff.1 H2.it.2.2).1
                have h := sn_record (ob := .loop rec) N6.it ((give_old hlt).trans H2.it.2.1) (by decide) (quiet_block H2.it.2.2 ((Keeps.refl _ _).alloc _).drew)
                exact ⟨h.1, (sn_record N8 h.1 (by decide) h.2).2⟩)
              clear N8 hs3
              have L8 : Aside (own6 (W9.heap.size + 1) = 14 ∧ (((w6.setCell ⟨W2.heap.size, 0, none⟩ (.int .i64 1048576)).setCell ⟨W2.heap.size, 1, none⟩ (.slice qa ql qc))).heap[W9.heap.size + 1]? = some (.loop rec)) := LL
              generalize ((w6.setCell ⟨W2.heap.size, 0, none⟩ (.int .i64 1048576)).setCell ⟨W2.heap.size, 1, none⟩ (.slice qa ql qc)) = W7 at X8 L8 ⊢
              obtain ⟨own8, ho8⟩ : ∃ own8, own6 = own8 := ⟨_, rfl⟩
              rw [ho8] at X8 L8
              clear ho8
              generalize W2.heap.size = nb at X8 ⊢
              obtain ⟨n0, n1, _, _⟩ := F1.res20 ⟨X8.it.x⟩
              have v0 := X8.it.x.cell (List.mem_cons_of_mem _ PB.it) 0
              have v1 := X8.it.x.cell (List.mem_cons_of_mem _ PB.it) 1
              have z0 := X8.it.x.frz (List.mem_cons_of_mem _ PB.it) 0
              have z1 := X8.it.x.frz (List.mem_cons_of_mem _ PB.it) 1
              simp only [List.getElem?_cons_zero, List.getElem?_cons_succ] at v0 v1
              obtain ⟨F8, G8⟩ := fin38 (y0 := .int .i64 1048576) (y1 := .slice qa ql qc) X8.it K1.it L8.it.1 L8.it.2
              have F8 := Aside.mk F8
              have G8 := Aside.mk G8
              clear X8 X6 D2 E2 N6 hHeld ci cr cs2 ca y0 y1 fi
              unfold Only
              gi_upto_region 39 with fail
              generalize ((W7.setCell ⟨wb, 0, none⟩ (.int .i64 1048576)).setCell ⟨wb, 1, none⟩ (.slice qa ql qc)) = W8 at F8 G8 ⊢
              have ci := F8.it.x.cell (List.mem_cons_self ..) 0
              have fi := F8.it.x.frz (List.mem_cons_self ..) 0
              have cr := F8.it.x.cell (List.mem_cons_of_mem _ (List.mem_cons_self ..)) 0
              simp only [List.getElem?_cons_zero] at ci cr
              obtain ⟨F9, G9⟩ := fin39 F8.it K1.it L8.it.1 G8.it (.int .i64 ((k : Int) + 1))
              have F9 := Aside.mk F9
              have G9 := Aside.mk G9
              clear F8 G8 n0 n1 v0 v1 z0 z1
              gi_upto_region 40 with fail
              clear ci cr fi
              generalize (W8.setCell ⟨ib, 0, none⟩ (.int .i64 ((k : Int) + 1))) = W10 at F9 G9 ⊢
              have ci := F9.it.x.cell (List.mem_cons_self ..) 0
              have cr := F9.it.x.cell (List.mem_cons_of_mem _ (List.mem_cons_self ..)) 0
              simp only [List.getElem?_cons_zero] at ci cr
              gi_wp2
              refine ⟨G9.it.trans HK.it.2.2.2.symm, own8, q6, .slice qa ql qc, ?_, L8.it.1⟩
              rw [List.length_append, HK.it.1]
              exact F9.it
          · have hkd : decide ((k : Int) < M) = false := decide_eq_false (by omega)
            have hkM' : ¬ (k : Int) < M := by omega
            obtain ⟨F9, G9⟩ := fin39 H2.it.1 K1.it H2.it.2.1 H2.it.2.2 (.int .i64 ((k : Int) + 1))
            have F9 := Aside.mk F9
            have G9 := Aside.mk G9
            gi_upto_region 40 with fail
            clear ci cr fi
            generalize (W2.setCell ⟨ib, 0, none⟩ (.int .i64 ((k : Int) + 1))) = W10 at F9 G9 ⊢
            have ci := F9.it.x.cell (List.mem_cons_self ..) 0
            have cr := F9.it.x.cell (List.mem_cons_of_mem _ (List.mem_cons_self ..)) 0
            simp only [List.getElem?_cons_zero] at ci cr
            gi_wp2
            refine ⟨G9.it.trans HK.it.2.2.2.symm, own2, ⟨q', s', ?_⟩, H2.it.2.1⟩
            rw [List.length_append, HK.it.1]
            exact F9.it
      case hcont =>
        rintro W ⟨own, q', s', i, R, rfl⟩
        clear R9 f0
        generalize W9.heap.size = d0 at R ⊢
        clear W9 own9 own8 W8
        have ci := R.x.cell (List.mem_cons_self ..) 0
        have cr := R.x.cell (List.mem_cons_of_mem _ (List.mem_cons_self ..)) 0
        have cs2 := R.x.cell (List.mem_cons_of_mem _ (List.mem_cons_of_mem _ (List.mem_cons_of_mem _ MS.it))) 0
        simp only [List.getElem?_cons_zero] at ci cr cs2
        have HR := Aside.mk R
        clear R
        dsimp only
        have enn : ((nl : Int) != nl) = false := by simp
        go_upto_region 20 with fail
        have R7 : Aside (Fr A w (give own W.heap.size 11) (W.alloc (.cells #[.int .i64 0] 3)) p q' s' ((11, W.heap.size, 3, [.int .i64 0]) :: (7, wb, 31, [.int .i64 1048576, s']) :: KK) bi bs vi vs q (.slice va nl vc) [d0]) := ⟨(HR.it.box 11 3 [.int .i64 0]).sub (fun x hx => by
          simp only [List.mem_cons] at hx ⊢
          rcases hx with h | h | h
          · exact .inl h
          · exact .inr (.inr (.inr (.inl h)))
          · exact .inr (.inr (.inr (.inr h))))⟩
        clear cr
        have cr := R7.it.x.cell (List.mem_cons_self ..) 0
        have fr := R7.it.x.frz (List.mem_cons_self ..) 0
        simp only [List.getElem?_cons_zero] at cr
        clear ci cs2 HR
        generalize (W.alloc (.cells #[.int .i64 0] 3)) = W7 at R7 cr fr ⊢
        generalize give own W.heap.size 11 = own8 at R7
        generalize W.heap.size = rb at R7 cr fr ⊢
        clear W own
        obtain ⟨R7', -⟩ := R7.it.write (cs' := [.int .i64 1]) (fun x hx => by
          rcases List.mem_cons.1 hx with rfl | hx
          · exact (by decide : (7 : Nat) ≠ 11)
          · rw [K1.it x hx]; decide) (by decide) ((Keeps.refl (fun k => k = rb) W7).setCell ⟨rb, 0, none⟩ (.int .i64 1) (fun _ => rfl)) ((R7.it.x.c _ (List.mem_cons_self ..)).1.setCell 0 (.int .i64 1))
        have R8 := Aside.mk R7'
        clear R7' R7
        go_wp2_with fail
        clear cr fr
        generalize W7.setCell ⟨rb, 0, none⟩ (.int .i64 1) = W8 at R8 ⊢
        clear W7
        rw [rounds_succ]
        have r0 := R8.it.x.cell (List.mem_cons_self ..) 0
        have f8 := R8.it.x.cell (List.mem_cons_of_mem _ (List.mem_cons_of_mem _ MF.it)) 0
        simp only [List.getElem?_cons_zero] at r0 f8
        go_upto_region 22 with fail
        have R9 := Aside.mk (R8.it.box 12 3 [.int .i64 0])
        have f0 := R9.it.x.cell (List.mem_cons_of_mem _ (List.mem_cons_of_mem _ (List.mem_cons_of_mem _ MF.it))) 0
        simp only [List.getElem?_cons_zero] at f0
        clear r0 f8 R8
        generalize (W8.alloc (.cells #[.int .i64 0] 3)) = W9 at R9 f0 ⊢
        generalize give own8 W8.heap.size 12 = own9 at R9
        generalize W8.heap.size = ib at R9 ⊢
        go_wp2_with fail
        refine (wpIn_wide (n := 9)).1 ?_
        refine range_break (b := 4) (gf := 24) (lb := #[.pointer (some ⟨bi, 0, none⟩), .pointer (some ⟨bs, 0, none⟩)]) rfl (enters_of Tryd.func24 (by kernel_rfl) rfl) (all_hands 8 bi bs vi vs q (by rw [HNL.it]; omega)) (fun _ => rfl)
          (fun pre W => ∃ own q' s', Fr A w own W p q' s' ((12, ib, 3, [.int .i64 pre.length]) :: (11, rb, 3, [.int .i64 1]) :: (7, wb, 31, [.int .i64 1048576, s']) :: KK) bi bs vi vs q (.slice va nl vc) [W9.heap.size, d0] ∧ own (W9.heap.size + 1) = 14)
          (fun W => ∃ own q' s' i, Fr A w own W p q' s' ((12, ib, 3, [.int .i64 i]) :: (11, rb, 3, [.int .i64 1]) :: (7, wb, 31, [.int .i64 1048576, s']) :: KK) bi bs vi vs q (.slice va nl vc) [W9.heap.size, d0] ∧ own (W9.heap.size + 1) = 14) (fun W => ∃ own q' s' i, Fr A w own W p q' s' ((12, ib, 3, [.int .i64 i]) :: (11, rb, 3, [.int .i64 1]) :: (7, wb, 31, [.int .i64 1048576, s']) :: KK) bi bs vi vs q (.slice va nl vc) [W9.heap.size, d0]) ?h0 ?hq ?hw ?hp ?hpx ?a1r1 ?assign ?body ?h1 ?h2 (fun _ h => h) ?hcont
        case h0 =>
          intro r
          obtain ⟨own', h1, h2⟩ := R9.it.enter r
          exact ⟨own', _, _, h1, h2⟩
        case hq =>
          rintro pre A' B' ⟨own, q', s', h, ho⟩ hk
          exact ⟨own, q', s', h.quiet hk, ho⟩
        case hw =>
          rintro pre A' ⟨own, q', s', h, ho⟩
          exact h.wk
        case hp =>
          rintro pre A' r r' ⟨own, q', s', h, ho⟩ hl
          refine ⟨own, q', s', h.put ho (by decide) (fun x hx => ?_), ho⟩
          simp only [List.mem_cons] at hx
          rcases hx with rfl | rfl | rfl | hx
          · exact (by decide : (12 : Nat) ≠ 14)
          · exact (by decide : (11 : Nat) ≠ 14)
          · exact (by decide : (7 : Nat) ≠ 14)
          · rw [K1.it x hx]; decide
        case assign =>
          intro x W K hK
          gi_wp2
          exact hK
        case hpx =>
          rintro A' r r' ⟨own, q', s', i, h, ho⟩ hl
          refine ⟨own, q', s', i, h.put ho (by decide) (fun x hx => ?_), ho⟩
          simp only [List.mem_cons] at hx
          rcases hx with rfl | rfl | rfl | hx
          · exact (by decide : (12 : Nat) ≠ 14)
          · exact (by decide : (11 : Nat) ≠ 14)
          · exact (by decide : (7 : Nat) ≠ 14)
          · rw [K1.it x hx]; decide
        case h1 =>
          rintro W ⟨own, q', s', h, ho⟩
          exact ⟨own, q', s', _, h⟩
        case h2 =>
          rintro W ⟨own, q', s', i, h, ho⟩
          exact ⟨own, q', s', i, h⟩
        case body =>
          rintro pre x W rec ⟨own, q', s', R, hlo⟩ hpre hx hrec
          have hlt : pre.length < nl := by rw [← HNL.it]; exact (List.getElem?_eq_some_iff.1 hx).1
          obtain ⟨k, hk⟩ : ∃ k, pre.length = k := ⟨_, rfl⟩
          rw [hk] at R hx hlt
          have Rj := Aside.mk (R.box 13 3 [.int .i64 0])
          have f1 := Rj.it.x.cell (List.mem_cons_of_mem _ (List.mem_cons_of_mem _ (List.mem_cons_of_mem _ (List.mem_cons_of_mem _ MF.it)))) 0
          simp only [List.getElem?_cons_zero] at f1
          have HK := Aside.mk (And.intro hk (And.intro hlo (And.intro hx hrec)))
          have R0 := Aside.mk R
          clear R hk hlo hx hrec hpre
          gi_wp2_with fail
          have hl0 : Aside ((W.alloc (.cells #[.int .i64 0] 3)).heap[W9.heap.size + 1]? = some (.loop rec)) := ⟨quiet_block HK.it.2.2.2 ((Keeps.refl _ _).alloc _)⟩
          have hlj : Aside (give own W.heap.size 13 (W9.heap.size + 1) = 14) := ⟨(give_old (Array.getElem?_eq_some_iff.1 HK.it.2.2.2).1).trans HK.it.2.1⟩
          generalize (W.alloc (.cells #[.int .i64 0] 3)) = Wj at Rj f1 hl0 ⊢
          generalize give own W.heap.size 13 = ownj at Rj hlj
          generalize W.heap.size = jb at Rj ⊢
          have hll : Aside (W9.heap.size + 1 < Wj.heap.size) := ⟨(Array.getElem?_eq_some_iff.1 hl0.it).1⟩
          refine range_inner (l₀ := W9.heap.size + 1) (r₀ := rec) hl0.it (gf := 24) (lb := #[.pointer (some ⟨bi, 0, none⟩), .pointer (some ⟨bs, 0, none⟩)]) rfl (enters_of Tryd.func24 (by kernel_rfl) rfl) (all_hands _ bi bs vi vs q (by rw [HNL.it]; omega)) (fun _ => rfl)
            (fun pre2 W2 => pre2.length ≤ k ∧ ∃ own2, Fr A w own2 W2 p q' s' ((13, jb, 3, [.int .i64 pre2.length]) :: (12, ib, 3, [.int .i64 k]) :: (11, rb, 3, [.int .i64 1]) :: (7, wb, 31, [.int .i64 1048576, s']) :: KK) bi bs vi vs q (.slice va nl vc) [W9.heap.size, d0] ∧ own2 (W9.heap.size + 1) = 14 ∧ own2 Wj.heap.size = 16 ∧ W2.heap[W9.heap.size + 1]? = some (.loop rec))
            (fun cc _ W2 => cc = .exit 6 ∧ ∃ own2, Fr A w own2 W2 p q' s' ((12, ib, 3, [.int .i64 k]) :: (11, rb, 3, [.int .i64 1]) :: (7, wb, 31, [.int .i64 1048576, s']) :: KK) bi bs vi vs q (.slice va nl vc) [W9.heap.size, d0] ∧ own2 (W9.heap.size + 1) = 14 ∧ own2 Wj.heap.size = 16 ∧ W2.heap[W9.heap.size + 1]? = some (.loop rec)) ?h02 ?hq2 ?hw2 ?hp2 ?hpx2 ?a12r1 ?assign2 ?body2 ?done2 ?stop2
          case h02 =>
            intro r
            refine ⟨Nat.zero_le _, _, Rj.it.enter2 r, (give_old hll.it).trans hlj.it, give_new (Nat.le_refl _), quiet_block hl0.it ((Keeps.refl _ _).alloc _)⟩
          case hq2 =>
            rintro pre2 A' B' ⟨h1, own2, h2, h3, h4, h5⟩ hk
            exact ⟨h1, own2, h2.quiet hk, h3, h4, quiet_block h5 hk⟩
          case hw2 =>
            rintro pre2 A' ⟨_, own2, h2, _⟩
            exact h2.wk
          case hp2 =>
            rintro pre2 A' r r' ⟨h1, own2, h2, h3, h4, h5⟩ hl
            refine ⟨h1, own2, h2.put h4 (by decide) (fun x hx => ?_), h3, h4, (World.putObj_heap_other (by have := hll.it; omega)).trans h5⟩
            simp only [List.mem_cons] at hx
            rcases hx with rfl | rfl | rfl | rfl | hx
            · exact (by decide : (13 : Nat) ≠ 16)
            · exact (by decide : (12 : Nat) ≠ 16)
            · exact (by decide : (11 : Nat) ≠ 16)
            · exact (by decide : (7 : Nat) ≠ 16)
            · rw [K1.it x hx]; decide
          case hpx2 =>
            rintro cc pre2 A' r r' ⟨h1, own2, h2, h3, h4, h5⟩ hl
            refine ⟨h1, own2, h2.put h4 (by decide) (fun x hx => ?_), h3, h4, (World.putObj_heap_other (by have := hll.it; omega)).trans h5⟩
            simp only [List.mem_cons] at hx
            rcases hx with rfl | rfl | rfl | hx
            · exact (by decide : (12 : Nat) ≠ 16)
            · exact (by decide : (11 : Nat) ≠ 16)
            · exact (by decide : (7 : Nat) ≠ 16)
            · rw [K1.it x hx]; decide
          case assign2 =>
            intro x W K hK
            gi_wp2
            exact hK
          case done2 =>
            rintro W2 ⟨h1, _⟩
            rw [HNL.it] at h1
            omega
          case body2 =>
            rintro pre2 x2 W2 r2 ⟨h1, own2, h2, h3, h4, h5⟩ _ hx2 hr2
            obtain ⟨m, hm⟩ : ∃ m, pre2.length = m := ⟨_, rfl⟩
            rw [hm] at h1 h2 hx2
            obtain ⟨sa, sc, sg, hse, hsl, rfl, y0, y1⟩ := was_at h2 hx2
            injection hse with e1 e2 e3
            subst e1 e3
            clear e2
            have cj := h2.x.cell (List.mem_cons_self ..) 0
            have fj := h2.x.frz (List.mem_cons_self ..) 0
            have ci := h2.x.cell (List.mem_cons_of_mem _ (List.mem_cons_self ..)) 0
            have cs2 := h2.x.cell (List.mem_cons_of_mem _ (List.mem_cons_of_mem _ (List.mem_cons_of_mem _ (List.mem_cons_of_mem _ MS.it)))) 0
            simp only [List.getElem?_cons_zero] at cj ci cs2
            have hml : (m : Int) < nl := by omega
            have hmd : decide ((nl : Int) ≤ m) = false := decide_eq_false (by omega)
            have hml2 : ¬ (nl : Int) ≤ m := by omega
            have hm0 : (0 : Int) ≤ m := by omega
            have exx : ((x2.1 : Int) != x2.1) = false := by simp
            have H2 := Aside.mk (And.intro h2 (And.intro h3 (And.intro h4 h5)))
            have HM2 := Aside.mk hm
            clear h2 h3 h4 h5 hx2 hr2 hm Rj R0 f1
            rcases Nat.eq_or_lt_of_le h1 with rfl | hmk
            · have emm : ((m : Int) == m) = true := by simp
              gi_wp2
              exact ⟨rfl, rfl, _, H2.it.1.sub (fun x hx => List.mem_cons_of_mem _ hx), H2.it.2.1, H2.it.2.2.1, H2.it.2.2.2⟩
            · have emk : ((m : Int) == k) = false := beq_eq_false_iff_ne.2 (by omega)
              gi_wp2
              have hjo : own2 jb = 13 := (H2.it.1.x.c _ (List.mem_cons_self ..)).2
              have n1 : Wj.heap.size ≠ jb := fun e => by have := H2.it.2.2.1; rw [e, hjo] at this; cases this
              have n2 : W9.heap.size + 1 ≠ jb := fun e => by have := H2.it.2.1; rw [e, hjo] at this; cases this
              have wr1 := H2.it.1.write (cs' := [.int .i64 ((m : Int) + 1)]) (fun x hx => by
                simp only [List.mem_cons] at hx
                rcases hx with rfl | rfl | rfl | hx
                · exact (by decide : (12 : Nat) ≠ 13)
                · exact (by decide : (11 : Nat) ≠ 13)
                · exact (by decide : (7 : Nat) ≠ 13)
                · rw [K1.it x hx]; decide) (by decide) ((Keeps.refl (fun k => k = jb) W2).setCell ⟨jb, 0, none⟩ (.int .i64 ((m : Int) + 1)) (fun _ => rfl)) ((H2.it.1.x.c _ (List.mem_cons_self ..)).1.setCell 0 (.int .i64 ((m : Int) + 1)))
              refine ⟨Below.heap_setCell W2 _ _ _ n1, by rw [List.length_append, HM2.it]; exact hmk, own2, ?_, H2.it.2.1, H2.it.2.2.1, (Below.heap_setCell W2 _ _ _ n2).trans H2.it.2.2.2⟩
              rw [List.length_append, HM2.it]
              exact wr1.1
          case stop2 =>
            rintro cc pre2 W2 _ ⟨rfl, own2, h2, h3, _, h5⟩
            obtain ⟨sa, sc, sg, hse, hsl, rfl, y0, y1⟩ := was_at h2 HK.it.2.2.1
            injection hse with e1 e2 e3
            subst e1 e3
            clear e2
            have ci := h2.x.cell (List.mem_cons_self ..) 0
            have fi := h2.x.frz (List.mem_cons_self ..) 0
            have cr := h2.x.cell (List.mem_cons_of_mem _ (List.mem_cons_self ..)) 0
            have cs2 := h2.x.cell (List.mem_cons_of_mem _ (List.mem_cons_of_mem _ (List.mem_cons_of_mem _ MS.it))) 0
            have ca := h2.x.cell (List.mem_cons_of_mem _ (List.mem_cons_of_mem _ (List.mem_cons_of_mem _ N4.it))) 0
            simp only [List.getElem?_cons_zero] at ci cr cs2 ca
            have hkl : (k : Int) < nl := by omega
            have hmd : decide ((nl : Int) ≤ k) = false := decide_eq_false (by omega)
            have hml2 : ¬ (nl : Int) ≤ k := by omega
            have hm0 : (0 : Int) ≤ k := by omega
            have exx : ((x.1 : Int) != x.1) = false := by simp
            have eyy : (x.2 != x.2) = false := by simp
            have H2 := Aside.mk (And.intro h2 (And.intro h3 h5))
            clear h2 h3 h5 Rj R0 f1
            by_cases hkM : k < M
            · have hkd : decide ((k : Int) < M) = true := decide_eq_true (by omega)
              have hkM' : (k : Int) < M := by omega
              obtain ⟨F9, G9⟩ := fin39 H2.it.1 K1.it H2.it.2.1 H2.it.2.2 (.int .i64 ((k : Int) + 1))
              have F9 := Aside.mk F9
              have G9 := Aside.mk G9
              gi_upto_region 40 with fail
              clear ci cr fi
              generalize (W2.setCell ⟨ib, 0, none⟩ (.int .i64 ((k : Int) + 1))) = W10 at F9 G9 ⊢
              have ci := F9.it.x.cell (List.mem_cons_self ..) 0
              have cr := F9.it.x.cell (List.mem_cons_of_mem _ (List.mem_cons_self ..)) 0
              have cst := F9.it.x.cell (List.mem_cons_of_mem _ (List.mem_cons_of_mem _ (List.mem_cons_of_mem _ N5.it))) 0
              simp only [List.getElem?_cons_zero] at ci cr cst
              by_cases hst : stop ≤ (k : Int) + 1
              · have hsd : decide (stop ≤ (k : Int) + 1) = true := decide_eq_true hst
                gi_wp2
                exact ⟨G9.it.trans HK.it.2.2.2.symm, rfl, own2, ⟨q', s', _, F9.it⟩, H2.it.2.1⟩
              · have hsd : decide (stop ≤ (k : Int) + 1) = false := decide_eq_false hst
                gi_wp2
                refine ⟨G9.it.trans HK.it.2.2.2.symm, own2, ⟨q', s', ?_⟩, H2.it.2.1⟩
                rw [List.length_append, HK.it.1]
                exact F9.it
            · have hkd : decide ((k : Int) < M) = false := decide_eq_false (by omega)
              have hkM' : ¬ (k : Int) < M := by omega
              obtain ⟨F9, G9⟩ := fin39 H2.it.1 K1.it H2.it.2.1 H2.it.2.2 (.int .i64 ((k : Int) + 1))
              have F9 := Aside.mk F9
              have G9 := Aside.mk G9
              gi_upto_region 40 with fail
              clear ci cr fi
              generalize (W2.setCell ⟨ib, 0, none⟩ (.int .i64 ((k : Int) + 1))) = W10 at F9 G9 ⊢
              have ci := F9.it.x.cell (List.mem_cons_self ..) 0
              have cr := F9.it.x.cell (List.mem_cons_of_mem _ (List.mem_cons_self ..)) 0
              have cst := F9.it.x.cell (List.mem_cons_of_mem _ (List.mem_cons_of_mem _ (List.mem_cons_of_mem _ N5.it))) 0
              simp only [List.getElem?_cons_zero] at ci cr cst
              by_cases hst : stop ≤ (k : Int) + 1
              · have hsd : decide (stop ≤ (k : Int) + 1) = true := decide_eq_true hst
                gi_wp2
                exact ⟨G9.it.trans HK.it.2.2.2.symm, rfl, own2, ⟨q', s', _, F9.it⟩, H2.it.2.1⟩
              · have hsd : decide (stop ≤ (k : Int) + 1) = false := decide_eq_false hst
                gi_wp2
                refine ⟨G9.it.trans HK.it.2.2.2.symm, own2, ⟨q', s', ?_⟩, H2.it.2.1⟩
                rw [List.length_append, HK.it.1]
                exact F9.it
        case hcont =>
          rintro W ⟨own, q', s', i, R⟩
          have ld1d0 : Aside (d0 < W9.heap.size) := ⟨(Array.getElem?_eq_some_iff.1 (R9.it.ds d0 (by simp)).1).1⟩
          clear R9 f0
          generalize W9.heap.size = d1 at R ld1d0 ⊢
          clear W9 own9 own8 W8
          have ci := R.x.cell (List.mem_cons_self ..) 0
          have cr := R.x.cell (List.mem_cons_of_mem _ (List.mem_cons_self ..)) 0
          have cs2 := R.x.cell (List.mem_cons_of_mem _ (List.mem_cons_of_mem _ (List.mem_cons_of_mem _ MS.it))) 0
          simp only [List.getElem?_cons_zero] at ci cr cs2
          have HR := Aside.mk R
          clear R
          dsimp only
          go_upto_region 20 with fail
          have R7 : Aside (Fr A w (give own W.heap.size 11) (W.alloc (.cells #[.int .i64 1] 3)) p q' s' ((11, W.heap.size, 3, [.int .i64 1]) :: (7, wb, 31, [.int .i64 1048576, s']) :: KK) bi bs vi vs q (.slice va nl vc) [d1, d0]) := ⟨(HR.it.box 11 3 [.int .i64 1]).sub (fun x hx => by
            simp only [List.mem_cons] at hx ⊢
            rcases hx with h | h | h
            · exact .inl h
            · exact .inr (.inr (.inr (.inl h)))
            · exact .inr (.inr (.inr (.inr h))))⟩
          clear cr
          have cr := R7.it.x.cell (List.mem_cons_self ..) 0
          have fr := R7.it.x.frz (List.mem_cons_self ..) 0
          simp only [List.getElem?_cons_zero] at cr
          clear ci cs2 HR
          generalize (W.alloc (.cells #[.int .i64 1] 3)) = W7 at R7 cr fr ⊢
          generalize give own W.heap.size 11 = own8 at R7
          generalize W.heap.size = rb at R7 cr fr ⊢
          clear W own
          obtain ⟨R7', -⟩ := R7.it.write (cs' := [.int .i64 2]) (fun x hx => by
            rcases List.mem_cons.1 hx with rfl | hx
            · exact (by decide : (7 : Nat) ≠ 11)
            · rw [K1.it x hx]; decide) (by decide) ((Keeps.refl (fun k => k = rb) W7).setCell ⟨rb, 0, none⟩ (.int .i64 2) (fun _ => rfl)) ((R7.it.x.c _ (List.mem_cons_self ..)).1.setCell 0 (.int .i64 2))
          have R8 := Aside.mk R7'
          clear R7' R7
          go_wp2_with fail
          clear cr fr
          generalize W7.setCell ⟨rb, 0, none⟩ (.int .i64 2) = W8 at R8 ⊢
          clear W7
          rw [rounds_succ]
          have r0 := R8.it.x.cell (List.mem_cons_self ..) 0
          have f8 := R8.it.x.cell (List.mem_cons_of_mem _ (List.mem_cons_of_mem _ MF.it)) 0
          simp only [List.getElem?_cons_zero] at r0 f8
          go_upto_region 22 with fail
          have R9 := Aside.mk (R8.it.box 12 3 [.int .i64 0])
          have f0 := R9.it.x.cell (List.mem_cons_of_mem _ (List.mem_cons_of_mem _ (List.mem_cons_of_mem _ MF.it))) 0
          simp only [List.getElem?_cons_zero] at f0
          clear r0 f8 R8
          generalize (W8.alloc (.cells #[.int .i64 0] 3)) = W9 at R9 f0 ⊢
          generalize give own8 W8.heap.size 12 = own9 at R9
          generalize W8.heap.size = ib at R9 ⊢
          go_wp2_with fail
          refine (wpIn_wide (n := 9)).1 ?_
          refine range_break (b := 4) (gf := 24) (lb := #[.pointer (some ⟨bi, 0, none⟩), .pointer (some ⟨bs, 0, none⟩)]) rfl (enters_of Tryd.func24 (by kernel_rfl) rfl) (all_hands 8 bi bs vi vs q (by rw [HNL.it]; omega)) (fun _ => rfl)
            (fun pre W => ∃ own q' s', Fr A w own W p q' s' ((12, ib, 3, [.int .i64 pre.length]) :: (11, rb, 3, [.int .i64 2]) :: (7, wb, 31, [.int .i64 1048576, s']) :: KK) bi bs vi vs q (.slice va nl vc) [W9.heap.size, d1, d0] ∧ own (W9.heap.size + 1) = 14)
            (fun _ => False) (fun W => ∃ own q' s' i, Fr A w own W p q' s' ((12, ib, 3, [.int .i64 i]) :: (11, rb, 3, [.int .i64 2]) :: (7, wb, 31, [.int .i64 1048576, s']) :: KK) bi bs vi vs q (.slice va nl vc) [W9.heap.size, d1, d0] ∧ i = nl) ?h0 ?hq ?hw ?hp ?hpx ?a1r2 ?assign ?body ?h1 ?h2 (fun _ h => h) ?hcont
          case h0 =>
            intro r
            obtain ⟨own', h1, h2⟩ := R9.it.enter r
            exact ⟨own', _, _, h1, h2⟩
          case hq =>
            rintro pre A' B' ⟨own, q', s', h, ho⟩ hk
            exact ⟨own, q', s', h.quiet hk, ho⟩
          case hw =>
            rintro pre A' ⟨own, q', s', h, ho⟩
            exact h.wk
          case hp =>
            rintro pre A' r r' ⟨own, q', s', h, ho⟩ hl
            refine ⟨own, q', s', h.put ho (by decide) (fun x hx => ?_), ho⟩
            simp only [List.mem_cons] at hx
            rcases hx with rfl | rfl | rfl | hx
            · exact (by decide : (12 : Nat) ≠ 14)
            · exact (by decide : (11 : Nat) ≠ 14)
            · exact (by decide : (7 : Nat) ≠ 14)
            · rw [K1.it x hx]; decide
          case assign =>
            intro x W K hK
            gi_wp2
            exact hK
          case hpx => exact fun _ _ _ h _ => h.elim
          case h1 =>
            rintro W ⟨own, q', s', h, ho⟩
            exact ⟨own, q', s', _, h, by rw [HNL.it]⟩
          case h2 => exact fun _ h => h.elim
          case body =>
            rintro pre x W rec ⟨own, q', s', R, hlo⟩ hpre hx hrec
            have hlt : pre.length < nl := by rw [← HNL.it]; exact (List.getElem?_eq_some_iff.1 hx).1
            obtain ⟨k, hk⟩ : ∃ k, pre.length = k := ⟨_, rfl⟩
            rw [hk] at R hx hlt
            have Rj := Aside.mk (R.box 13 3 [.int .i64 0])
            have f1 := Rj.it.x.cell (List.mem_cons_of_mem _ (List.mem_cons_of_mem _ (List.mem_cons_of_mem _ (List.mem_cons_of_mem _ MF.it)))) 0
            simp only [List.getElem?_cons_zero] at f1
            have HK := Aside.mk (And.intro hk (And.intro hlo (And.intro hx hrec)))
            have R0 := Aside.mk R
            clear R hk hlo hx hrec hpre
            gi_wp2_with fail
            have hl0 : Aside ((W.alloc (.cells #[.int .i64 0] 3)).heap[W9.heap.size + 1]? = some (.loop rec)) := ⟨quiet_block HK.it.2.2.2 ((Keeps.refl _ _).alloc _)⟩
            have hlj : Aside (give own W.heap.size 13 (W9.heap.size + 1) = 14) := ⟨(give_old (Array.getElem?_eq_some_iff.1 HK.it.2.2.2).1).trans HK.it.2.1⟩
            generalize (W.alloc (.cells #[.int .i64 0] 3)) = Wj at Rj f1 hl0 ⊢
            generalize give own W.heap.size 13 = ownj at Rj hlj
            generalize W.heap.size = jb at Rj ⊢
            have hll : Aside (W9.heap.size + 1 < Wj.heap.size) := ⟨(Array.getElem?_eq_some_iff.1 hl0.it).1⟩
            refine range_inner (l₀ := W9.heap.size + 1) (r₀ := rec) hl0.it (gf := 24) (lb := #[.pointer (some ⟨bi, 0, none⟩), .pointer (some ⟨bs, 0, none⟩)]) rfl (enters_of Tryd.func24 (by kernel_rfl) rfl) (all_hands _ bi bs vi vs q (by rw [HNL.it]; omega)) (fun _ => rfl)
              (fun pre2 W2 => pre2.length ≤ k ∧ ∃ own2, Fr A w own2 W2 p q' s' ((13, jb, 3, [.int .i64 pre2.length]) :: (12, ib, 3, [.int .i64 k]) :: (11, rb, 3, [.int .i64 2]) :: (7, wb, 31, [.int .i64 1048576, s']) :: KK) bi bs vi vs q (.slice va nl vc) [W9.heap.size, d1, d0] ∧ own2 (W9.heap.size + 1) = 14 ∧ own2 Wj.heap.size = 16 ∧ W2.heap[W9.heap.size + 1]? = some (.loop rec))
              (fun cc _ W2 => cc = .exit 6 ∧ ∃ own2, Fr A w own2 W2 p q' s' ((12, ib, 3, [.int .i64 k]) :: (11, rb, 3, [.int .i64 2]) :: (7, wb, 31, [.int .i64 1048576, s']) :: KK) bi bs vi vs q (.slice va nl vc) [W9.heap.size, d1, d0] ∧ own2 (W9.heap.size + 1) = 14 ∧ own2 Wj.heap.size = 16 ∧ W2.heap[W9.heap.size + 1]? = some (.loop rec)) ?h02 ?hq2 ?hw2 ?hp2 ?hpx2 ?a12r2 ?assign2 ?body2 ?done2 ?stop2
            case h02 =>
              intro r
              refine ⟨Nat.zero_le _, _, Rj.it.enter2 r, (give_old hll.it).trans hlj.it, give_new (Nat.le_refl _), quiet_block hl0.it ((Keeps.refl _ _).alloc _)⟩
            case hq2 =>
              rintro pre2 A' B' ⟨h1, own2, h2, h3, h4, h5⟩ hk
              exact ⟨h1, own2, h2.quiet hk, h3, h4, quiet_block h5 hk⟩
            case hw2 =>
              rintro pre2 A' ⟨_, own2, h2, _⟩
              exact h2.wk
            case hp2 =>
              rintro pre2 A' r r' ⟨h1, own2, h2, h3, h4, h5⟩ hl
              refine ⟨h1, own2, h2.put h4 (by decide) (fun x hx => ?_), h3, h4, (World.putObj_heap_other (by have := hll.it; omega)).trans h5⟩
              simp only [List.mem_cons] at hx
              rcases hx with rfl | rfl | rfl | rfl | hx
              · exact (by decide : (13 : Nat) ≠ 16)
              · exact (by decide : (12 : Nat) ≠ 16)
              · exact (by decide : (11 : Nat) ≠ 16)
              · exact (by decide : (7 : Nat) ≠ 16)
              · rw [K1.it x hx]; decide
            case hpx2 =>
              rintro cc pre2 A' r r' ⟨h1, own2, h2, h3, h4, h5⟩ hl
              refine ⟨h1, own2, h2.put h4 (by decide) (fun x hx => ?_), h3, h4, (World.putObj_heap_other (by have := hll.it; omega)).trans h5⟩
              simp only [List.mem_cons] at hx
              rcases hx with rfl | rfl | rfl | hx
              · exact (by decide : (12 : Nat) ≠ 16)
              · exact (by decide : (11 : Nat) ≠ 16)
              · exact (by decide : (7 : Nat) ≠ 16)
              · rw [K1.it x hx]; decide
            case assign2 =>
              intro x W K hK
              gi_wp2
              exact hK
            case done2 =>
              rintro W2 ⟨h1, _⟩
              rw [HNL.it] at h1
              omega
            case body2 =>
              rintro pre2 x2 W2 r2 ⟨h1, own2, h2, h3, h4, h5⟩ _ hx2 hr2
              obtain ⟨m, hm⟩ : ∃ m, pre2.length = m := ⟨_, rfl⟩
              rw [hm] at h1 h2 hx2
              obtain ⟨sa, sc, sg, hse, hsl, rfl, y0, y1⟩ := was_at h2 hx2
              injection hse with e1 e2 e3
              subst e1 e3
              clear e2
              have cj := h2.x.cell (List.mem_cons_self ..) 0
              have fj := h2.x.frz (List.mem_cons_self ..) 0
              have ci := h2.x.cell (List.mem_cons_of_mem _ (List.mem_cons_self ..)) 0
              have cs2 := h2.x.cell (List.mem_cons_of_mem _ (List.mem_cons_of_mem _ (List.mem_cons_of_mem _ (List.mem_cons_of_mem _ MS.it)))) 0
              simp only [List.getElem?_cons_zero] at cj ci cs2
              have hml : (m : Int) < nl := by omega
              have hmd : decide ((nl : Int) ≤ m) = false := decide_eq_false (by omega)
              have hml2 : ¬ (nl : Int) ≤ m := by omega
              have hm0 : (0 : Int) ≤ m := by omega
              have exx : ((x2.1 : Int) != x2.1) = false := by simp
              have H2 := Aside.mk (And.intro h2 (And.intro h3 (And.intro h4 h5)))
              have HM2 := Aside.mk hm
              clear h2 h3 h4 h5 hx2 hr2 hm Rj R0 f1
              rcases Nat.eq_or_lt_of_le h1 with rfl | hmk
              · have emm : ((m : Int) == m) = true := by simp
                gi_wp2
                exact ⟨rfl, rfl, _, H2.it.1.sub (fun x hx => List.mem_cons_of_mem _ hx), H2.it.2.1, H2.it.2.2.1, H2.it.2.2.2⟩
              · have emk : ((m : Int) == k) = false := beq_eq_false_iff_ne.2 (by omega)
                gi_wp2
                have hjo : own2 jb = 13 := (H2.it.1.x.c _ (List.mem_cons_self ..)).2
                have n1 : Wj.heap.size ≠ jb := fun e => by have := H2.it.2.2.1; rw [e, hjo] at this; cases this
                have n2 : W9.heap.size + 1 ≠ jb := fun e => by have := H2.it.2.1; rw [e, hjo] at this; cases this
                have wr1 := H2.it.1.write (cs' := [.int .i64 ((m : Int) + 1)]) (fun x hx => by
                  simp only [List.mem_cons] at hx
                  rcases hx with rfl | rfl | rfl | hx
                  · exact (by decide : (12 : Nat) ≠ 13)
                  · exact (by decide : (11 : Nat) ≠ 13)
                  · exact (by decide : (7 : Nat) ≠ 13)
                  · rw [K1.it x hx]; decide) (by decide) ((Keeps.refl (fun k => k = jb) W2).setCell ⟨jb, 0, none⟩ (.int .i64 ((m : Int) + 1)) (fun _ => rfl)) ((H2.it.1.x.c _ (List.mem_cons_self ..)).1.setCell 0 (.int .i64 ((m : Int) + 1)))
                refine ⟨Below.heap_setCell W2 _ _ _ n1, by rw [List.length_append, HM2.it]; exact hmk, own2, ?_, H2.it.2.1, H2.it.2.2.1, (Below.heap_setCell W2 _ _ _ n2).trans H2.it.2.2.2⟩
                rw [List.length_append, HM2.it]
                exact wr1.1
            case stop2 =>
              rintro cc pre2 W2 _ ⟨rfl, own2, h2, h3, _, h5⟩
              obtain ⟨sa, sc, sg, hse, hsl, rfl, y0, y1⟩ := was_at h2 HK.it.2.2.1
              injection hse with e1 e2 e3
              subst e1 e3
              clear e2
              have ci := h2.x.cell (List.mem_cons_self ..) 0
              have fi := h2.x.frz (List.mem_cons_self ..) 0
              have cr := h2.x.cell (List.mem_cons_of_mem _ (List.mem_cons_self ..)) 0
              have cs2 := h2.x.cell (List.mem_cons_of_mem _ (List.mem_cons_of_mem _ (List.mem_cons_of_mem _ MS.it))) 0
              have ca := h2.x.cell (List.mem_cons_of_mem _ (List.mem_cons_of_mem _ (List.mem_cons_of_mem _ N4.it))) 0
              simp only [List.getElem?_cons_zero] at ci cr cs2 ca
              have hkl : (k : Int) < nl := by omega
              have hmd : decide ((nl : Int) ≤ k) = false := decide_eq_false (by omega)
              have hml2 : ¬ (nl : Int) ≤ k := by omega
              have hm0 : (0 : Int) ≤ k := by omega
              have exx : ((x.1 : Int) != x.1) = false := by simp
              have eyy : (x.2 != x.2) = false := by simp
              have H2 := Aside.mk (And.intro h2 (And.intro h3 h5))
              clear h2 h3 h5 Rj R0 f1
              by_cases hkM : k < M
              · have hkd : decide ((k : Int) < M) = true := decide_eq_true (by omega)
                have hkM' : (k : Int) < M := by omega
                obtain ⟨F9, G9⟩ := fin39 H2.it.1 K1.it H2.it.2.1 H2.it.2.2 (.int .i64 ((k : Int) + 1))
                have F9 := Aside.mk F9
                have G9 := Aside.mk G9
                gi_upto_region 40 with fail
                clear ci cr fi
                generalize (W2.setCell ⟨ib, 0, none⟩ (.int .i64 ((k : Int) + 1))) = W10 at F9 G9 ⊢
                have ci := F9.it.x.cell (List.mem_cons_self ..) 0
                have cr := F9.it.x.cell (List.mem_cons_of_mem _ (List.mem_cons_self ..)) 0
                have cst := F9.it.x.cell (List.mem_cons_of_mem _ (List.mem_cons_of_mem _ (List.mem_cons_of_mem _ N5.it))) 0
                simp only [List.getElem?_cons_zero] at ci cr cst
                gi_wp2
                refine ⟨G9.it.trans HK.it.2.2.2.symm, own2, ⟨q', s', ?_⟩, H2.it.2.1⟩
                rw [List.length_append, HK.it.1]
                exact F9.it
              · have hkd : decide ((k : Int) < M) = false := decide_eq_false (by omega)
                have hkM' : ¬ (k : Int) < M := by omega
                obtain ⟨F9, G9⟩ := fin39 H2.it.1 K1.it H2.it.2.1 H2.it.2.2 (.int .i64 ((k : Int) + 1))
                have F9 := Aside.mk F9
                have G9 := Aside.mk G9
                gi_upto_region 40 with fail
                clear ci cr fi
                generalize (W2.setCell ⟨ib, 0, none⟩ (.int .i64 ((k : Int) + 1))) = W10 at F9 G9 ⊢
                have ci := F9.it.x.cell (List.mem_cons_self ..) 0
                have cr := F9.it.x.cell (List.mem_cons_of_mem _ (List.mem_cons_self ..)) 0
                have cst := F9.it.x.cell (List.mem_cons_of_mem _ (List.mem_cons_of_mem _ (List.mem_cons_of_mem _ N5.it))) 0
                simp only [List.getElem?_cons_zero] at ci cr cst
                gi_wp2
                refine ⟨G9.it.trans HK.it.2.2.2.symm, own2, ⟨q', s', ?_⟩, H2.it.2.1⟩
                rw [List.length_append, HK.it.1]
                exact F9.it
          case hcont =>
            rintro W ⟨own, q', s', i, R, rfl⟩
            have ld2d1 : Aside (d1 < W9.heap.size) := ⟨(Array.getElem?_eq_some_iff.1 (R9.it.ds d1 (by simp)).1).1⟩
            have ld2d0 : Aside (d0 < W9.heap.size) := ⟨(Array.getElem?_eq_some_iff.1 (R9.it.ds d0 (by simp)).1).1⟩
            clear R9 f0
            generalize W9.heap.size = d2 at R ld2d1 ld2d0 ⊢
            clear W9 own9 own8 W8
            have ci := R.x.cell (List.mem_cons_self ..) 0
            have cr := R.x.cell (List.mem_cons_of_mem _ (List.mem_cons_self ..)) 0
            have cs2 := R.x.cell (List.mem_cons_of_mem _ (List.mem_cons_of_mem _ (List.mem_cons_of_mem _ MS.it))) 0
            simp only [List.getElem?_cons_zero] at ci cr cs2
            have HR := Aside.mk R
            clear R
            dsimp only
            have enn : ((nl : Int) != nl) = false := by simp
            go_upto_region 20 with fail
            have R7 : Aside (Fr A w (give own W.heap.size 11) (W.alloc (.cells #[.int .i64 2] 3)) p q' s' ((11, W.heap.size, 3, [.int .i64 2]) :: (7, wb, 31, [.int .i64 1048576, s']) :: KK) bi bs vi vs q (.slice va nl vc) [d2, d1, d0]) := ⟨(HR.it.box 11 3 [.int .i64 2]).sub (fun x hx => by
              simp only [List.mem_cons] at hx ⊢
              rcases hx with h | h | h
              · exact .inl h
              · exact .inr (.inr (.inr (.inl h)))
              · exact .inr (.inr (.inr (.inr h))))⟩
            clear cr
            have cr := R7.it.x.cell (List.mem_cons_self ..) 0
            have fr := R7.it.x.frz (List.mem_cons_self ..) 0
            simp only [List.getElem?_cons_zero] at cr
            clear ci cs2 HR
            generalize (W.alloc (.cells #[.int .i64 2] 3)) = W7 at R7 cr fr ⊢
            generalize give own W.heap.size 11 = own8 at R7
            generalize W.heap.size = rb at R7 cr fr ⊢
            clear W own
            obtain ⟨R7', -⟩ := R7.it.write (cs' := [.int .i64 3]) (fun x hx => by
              rcases List.mem_cons.1 hx with rfl | hx
              · exact (by decide : (7 : Nat) ≠ 11)
              · rw [K1.it x hx]; decide) (by decide) ((Keeps.refl (fun k => k = rb) W7).setCell ⟨rb, 0, none⟩ (.int .i64 3) (fun _ => rfl)) ((R7.it.x.c _ (List.mem_cons_self ..)).1.setCell 0 (.int .i64 3))
            have R8 := Aside.mk R7'
            clear R7' R7
            go_wp2_with fail
            clear cr fr
            generalize W7.setCell ⟨rb, 0, none⟩ (.int .i64 3) = W8 at R8 ⊢
            clear W7
            rw [rounds_succ]
            have cr := R8.it.x.cell (List.mem_cons_self ..) 0
            have v0 := R8.it.x.cell (List.mem_cons_of_mem _ (List.mem_cons_self ..)) 0
            have v1 := R8.it.x.cell (List.mem_cons_of_mem _ (List.mem_cons_self ..)) 1
            have b7c := R8.it.x.cell (List.mem_cons_of_mem _ (List.mem_cons_of_mem _ N7.it)) 0
            simp only [List.getElem?_cons_zero, List.getElem?_cons_succ] at cr v0 v1 b7c
            have WK := Aside.mk (walked_ok W8 1048576 R8.it.x.both.t R8.it.x.both.d)
            go_upto_region 45 with fail
            go_wp2_with (first | (go_at_call 9; refine WK.it.mono ?_; clear WK; rintro e w9 ⟨rfl, K9⟩; have t6 := (R8.it.quiet K9.it).x.cell (List.mem_cons_of_mem _ (List.mem_cons_of_mem _ N6.it)) 0; have z6 := (R8.it.quiet K9.it).x.frz (List.mem_cons_of_mem _ (List.mem_cons_of_mem _ N6.it)) 0; simp only [List.getElem?_cons_zero] at t6) | fail)
            obtain ⟨q2, q1, q0, qc, qb⟩ := (R8.it.quiet K9.it).fin (List.mem_cons_of_mem _ (List.mem_cons_of_mem _ N6.it)) ld2d1.it ld2d0.it ld1d0.it
            refine ⟨by simp, .inl ⟨_, _, rfl, run_takeDeferred q2, ?_⟩⟩
            refine ⟨by simp, .inl ⟨_, _, rfl, run_takeDeferred q1, ?_⟩⟩
            refine ⟨by simp, .inl ⟨_, _, rfl, run_takeDeferred q0, ?_⟩⟩
            refine ⟨.bool true, ?_, rfl, qb⟩
            simp [results, Tryd.f3, go_sem, qc]
    · obtain ⟨z, hz⟩ : ∃ z, zs[j]? = some z := ⟨_, List.getElem?_eq_getElem (by rw [HN.it]; exact hlt)⟩
      obtain ⟨sb, so, rfl, oc⟩ := HOP.it j z hz
      have OC := Aside.mk oc
      clear hz oc b0 b1 b7c
      have MB : Aside ((7, wb, 31, [.int .i64 1048576, .slice va nl vc]) ∈ ((7, wb, 31, [.int .i64 1048576, .slice va nl vc]) :: CC)) := ⟨List.mem_cons_self ..⟩
      have M7' : Aside ((6, b7, 24, [.pointer (some ⟨p, 0, none⟩)]) ∈ ((7, wb, 31, [.int .i64 1048576, .slice va nl vc]) :: CC)) := ⟨List.mem_cons_of_mem _ M7.it⟩
      have HC1 : Aside (∀ x ∈ ((7, wb, 31, [.int .i64 1048576, .slice va nl vc]) :: CC : List Bx), x.1 ≠ 1) := ⟨fun x hx => by rcases List.mem_cons.1 hx with rfl | hx; show (7 : Nat) ≠ 1; decide; rw [C1.it x hx]; decide⟩
      have HC20 : Aside (∀ x ∈ ((7, wb, 31, [.int .i64 1048576, .slice va nl vc]) :: CC : List Bx), x.1 ≠ 20) := ⟨fun x hx => by rcases List.mem_cons.1 hx with rfl | hx; show (7 : Nat) ≠ 20; decide; rw [C1.it x hx]; decide⟩
      have Xd := Aside.mk (X.it.quiet (Keeps.refl _ _).drew)
      have Xn := Aside.mk ((X.it.box 20 31 [.int .i64 0, .slice none 0 0]).quiet (Keeps.refl _ _).drew)
      have HC1n : Aside (∀ x ∈ ((20, wr.heap.size, 31, [.int .i64 0, .slice none 0 0]) :: (7, wb, 31, [.int .i64 1048576, .slice va nl vc]) :: CC : List Bx), x.1 ≠ 1) := ⟨fun x hx => by rcases List.mem_cons.1 hx with rfl | hx; show (20 : Nat) ≠ 1; decide; exact HC1.it x hx⟩
      clear X
      go_upto_region 10 with fail
      go_cut [12, 13] from 44 to 58 (fun vn vo wx => ∃ (nb : Nat) (qa : Option Addr) (ql qc : Nat), vn = .pointer (some ⟨nb, 0, none⟩) ∧ vo = .bool true ∧ Aside (∃ own q', F1 A w own wx p q' (.slice qa ql qc) ((20, nb, 31, [.int .i64 1048576, .slice qa ql qc]) :: (7, wb, 31, [.int .i64 1048576, .slice va nl vc]) :: CC)))
      case first =>
        go_region_held3 (fun w' => w'.cell? ⟨b7, 0, none⟩ = some (.pointer (some ⟨p, 0, none⟩)) ∧ w'.cell? ⟨wb, 0, none⟩ = some (.int .i64 1048576) ∧ w'.cell? ⟨wb, 1, none⟩ = some (.slice va nl vc) ∧ w'.cell? ⟨sb, so + j * 3, none⟩ = some (.int .i64 z.kind) ∧ w'.cell? ⟨sb, so + j * 3 + 1, none⟩ = some (.int .u32 (z.id : Nat)) ∧ w'.cell? ⟨sb, so + j * 3 + 2, none⟩ = some (.int .i64 z.v)) (first | with_reducible exact F1.rd10 M7' MB OC (by with_reducible assumption) | with_reducible exact F1.rd10B M7' MB OC (by with_reducible assumption) | with_reducible exact F1.rd10A M7' MB OC (by with_reducible assumption) | with_reducible exact F1.rd10S M7' MB OC HC20 (by with_reducible assumption)) (first
          | (go_at_call 7; with_reducible refine (f1_stepA OC HC1 (by with_reducible assumption)).mono ?_; rintro e w6 ⟨qa, ql, qc, q6, own6, rfl, X6, _⟩)
          | (go_at_call 7; with_reducible refine (f1_stepA OC HC1n (by with_reducible assumption)).mono ?_; rintro e w7 ⟨qa, ql, qc, q6, own6, rfl, X7, _⟩; obtain ⟨f0, f1, f2, f3⟩ := F1.res20 X7)
          | fail)
        all_goals go_wp2_with fail
        all_goals go_meet
        all_goals first
          | exact ⟨_, qa, ql, qc, rfl, rfl, ⟨_, _, X6.it.box 20 31 [.int .i64 1048576, .slice qa ql qc]⟩⟩
          | (have hs3 := set2b (y0 := .int .i64 1048576) (y1 := .slice qa ql qc) (X7.it.c _ (List.mem_cons_self ..)).1
             exact ⟨_, qa, ql, qc, rfl, rfl, ⟨_, _, (X7.it.write HC20.it (by decide) hs3.1 hs3.2).1⟩⟩)
      case rest =>
        obtain ⟨nb, qa, ql, qc, rfl, rfl, NX⟩ := hcut
        obtain ⟨own6, q6, X6⟩ := NX.it
        have X6 := Aside.mk X6
        obtain ⟨n0, n1, _, _⟩ := F1.res20 X6
        have X9 : Aside (F1 A w own6 wc p q6 (.slice qa ql qc) ((7, wb, 31, [.int .i64 1048576, .slice va nl vc]) :: CC)) := ⟨X6.it.sub (fun x hx => List.mem_cons_of_mem _ hx)⟩
        have u0 := X9.it.cell (List.mem_cons_self ..) 0
        have u1 := X9.it.cell (List.mem_cons_self ..) 1
        simp only [List.getElem?_cons_zero, List.getElem?_cons_succ] at u0 u1
        have z0 := X9.it.frz (List.mem_cons_self ..) 0
        have z1 := X9.it.frz (List.mem_cons_self ..) 1
        have PW : Aside (F1 A w own6 ((wc.setCell ⟨wb, 0, none⟩ (.int .i64 1048576)).setCell ⟨wb, 1, none⟩ (.slice qa ql qc)) p q6 (.slice qa ql qc) ((7, wb, 31, [.int .i64 1048576, .slice qa ql qc]) :: CC)) := ⟨by
          have hs3 := set2b (y0 := .int .i64 1048576) (y1 := .slice qa ql qc) (X9.it.c _ (List.mem_cons_self ..)).1
          exact (X9.it.write (fun x hx => by rw [C1.it x hx]; decide) (by decide) hs3.1 hs3.2).1⟩
        clear X6 X9 NX Xd Xn
        go_wp2_with fail
        go_roundw
        case rel => exact ⟨j + 1, q6, _, own6, by go_num, by omega, PW⟩
        case measure => simp [intOf]; omega
end Go.Proofs.YtcdgmbaimbmdmaaDoor
