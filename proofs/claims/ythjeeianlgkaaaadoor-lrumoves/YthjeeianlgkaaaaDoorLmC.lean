/-
  LruMoves' walk
-/
import Derived.Test.YthjeeianlgkaaaaDoorLmB
namespace Go.Proofs.YthjeeianlgkaaaaDoor
open Go.RowKit Lulnn

variable {w w' w0 W : World} {own own' : Nat → Nat} {i c o j ca mb b q n : Nat} {room k now : Int} {L M La Lb : List Rx} {I : Nat → Prop} {A : Nat → Addr} {x y : Rx} {z : Oz} {v va vb : Value} {F : Int → Int}

structure Mw (A : Nat → Addr) (w : World) (own : Nat → Nat) (W : World) (ca mb : Nat) (room : Int) (La : List Rx) (F : Int → Int) (n : Nat) : Prop where
  og : OnG A w own W
  a : CaO own 1 W ca room La
  m : MapN W mb n F
  o : own mb = 6
  f : Wts F La
theorem Mw.sn (h : Mw A w own W ca mb room La F n) (s : Sn I own W own' w') (h0 : ¬ I 0) (h1 : ¬ I 1) (h6 : ¬ I 6) : Mw A w own' w' ca mb room La F n :=
  ⟨h.og.sn s h0, h.a.sn s h1, h.m.later s.keeps (by rw [h.o]; exact h6), (s.agree mb h.m.lt).trans h.o, h.f⟩
theorem Mw.quiet (h : Mw A w own W ca mb room La F n) (hk : Keeps Nowhere W w') : Mw A w own w' ca mb room La F n := h.sn (I := fun _ => False) (Sn.same hk) (fun x => x) (fun x => x) (fun x => x)
theorem Mw.call (h : Mw A w own W ca mb room La F n) (s : Sn (fun k => k = 1) own W own' w') (hc : CaO own' 1 w' ca room Lb) (hl : ∀ x ∈ Lb, x ∈ La) : Mw A w own' w' ca mb room Lb F n :=
  ⟨h.og.sn s (by decide), hc, h.m.later s.keeps (by rw [h.o]; decide), (s.agree mb h.m.lt).trans h.o, h.f.sub hl⟩
theorem Mw.put {F' : Int → Int} {n' : Nat} (h : Mw A w own W ca mb room La F n) (p : PutE own W ca room La z mb n own' w' F' n') : Mw A w own' w' ca mb room (putB room La z) F' n' :=
  ⟨h.og.sn p.s (by decide), p.c, p.m, (p.s.agree mb h.m.lt).trans h.o, p.f⟩
theorem owns_one3 (w : World) (x : Rx) : (w.alloc (.cells (c3 x).toArray 41)).ownsRow w.heap.size 41 3 (.slice (some ⟨w.heap.size, 0, none⟩) 1 1) 1 (c3 x) :=
  ⟨by simp, .inr ⟨w.heap.size, 1, (c3 x).toArray, rfl, Nat.le_refl _, Cells.new w 41 (c3 x), Nat.le_refl _, by decide, by simp, by simp⟩⟩
theorem r3_one : ∀ L : List Rx, ∀ u ∈ r3 L, u.oneCell' = true := fun L u hu => by
  obtain ⟨x, _, h⟩ := List.mem_flatMap.1 hu
  simp only [c3, List.mem_cons, List.not_mem_nil, or_false] at h
  rcases h with h | h | h <;> subst h <;> rfl
theorem getL_sub (L : List Rx) (k now : Int) : ∀ x ∈ getL L k now, x ∈ L := by
  intro x hx
  unfold getL at hx
  split at hx
  · exact hx
  · rename_i y hf
    split at hx
    · rcases List.mem_cons.1 hx with e | e
      · rw [e]; exact (findL_some hf).1
      · exact dropL_sub.subset e
    · exact dropL_sub.subset hx
theorem putB_len (room : Int) (L : List Rx) (z : Oz) : (putB room L z).length ≤ L.length + 1 := by
  unfold putB
  split
  · exact putL_len room L z.rx
  · omega
set_option maxHeartbeats 8000000 in
set_option maxRecDepth 20000 in
theorem lruMoves_walk {A : Nat → Addr} (room : Int) (v1 : Value) (ys : List Oz) (w : World) (hs : Sents 144 codeVars A w) (hwf : (Lit.int .i64 room).wf = true) (h1 : Ops28Arg w v1 ys) :
    Calls Tryd.prog 3 #[.int .i64 room, v1] w fun e w' => e = .returned (.bool true) ∧ Below w.heap.size w w' := by
  have AW := Aside.mk (awake_ok hs)
  have hr : I6 room := lu_wf hwf
  have HS := Aside.mk hs
  clear hs hwf
  rcases Int.lt_or_le room 0 with hneg | hpos
  · have CD : Aside (∀ w', Below w.heap.size w w' → Calls Tryd.prog 7 #[.iface 144 (.pointer (some (A 1)))] w' fun e w'' => e = .returned (.int .i64 2) ∧ w'' = w') := ⟨fun w' k => code_of (HS.it.later k) (Coded.mk 1 2 (by decide) (by decide) rfl)⟩
    have q1 : decide (room < 0) = true := decide_eq_true hneg
    go_enter Tryd.func3, Tryd.ntmps3
    go_upto_region 3 with (first | (go_at_call 5; refine AW.it.mono ?_; clear AW; rintro e w1 ⟨rfl, K1⟩) | fail)
    have N1 := Aside.mk (new_neg (HS.it.later K1.it.bel) hneg)
    go_upto_region 4 with (first | (go_at_call 6; refine N1.it.mono ?_; clear N1; rintro e w2 ⟨rfl, K2⟩) | fail)
    have C2 := Aside.mk (CD.it w2 (K1.it.trans K2.it).bel)
    go_wp2_with (first | (go_at_call 7; refine C2.it.mono ?_; clear C2; rintro e w4 ⟨rfl, hw4⟩; have hw4 := hw4.symm; subst hw4) | fail)
    go_ret
    exact ⟨rfl, (K1.it.trans K2.it).bel⟩
  · obtain ⟨L1, B1⟩ := h1
    have C1 := L1
    obtain ⟨q1, c1, rfl, hc1, hx1, _⟩ := C1
    have O1 := Aside.mk (fun i z (hi : ys[i]? = some z) => oz_at L1 hi)
    clear L1
    obtain ⟨n1, hn1⟩ : ∃ n, ys.length = n := ⟨_, rfl⟩
    have E1 := Aside.mk hn1
    rw [hn1] at B1 hc1 ⊢
    clear hn1
    have mx : maxLen ≤ 9223372036854775807 := by decide
    have mx2 : 10000 ≤ maxLen := by decide
    have hmk : ∀ w, (Instr.makeMap 30 none).run Tryd.prog w = .ok (.map (some w.heap.size)) (w.alloc (.map #[] 0)) := fun w => by kernel_rfl
    go_enter Tryd.func3, Tryd.ntmps3
    go_upto_region 3 with (first | (go_at_call 5; refine AW.it.mono ?_; clear AW; rintro e w1 ⟨rfl, K1⟩) | fail)
    have G1 := Aside.mk ((OnG.start HS.it).quiet K1.it)
    have N1 := Aside.mk (new_pos (fun _ => 0) 1 w1 hpos hr.2)
    go_upto_region 6 with (first | (go_at_call 6; refine N1.it.mono ?_; clear N1; rintro e w2 ⟨ca, rfl, A2, K2⟩) | fail)
    have G2 := Aside.mk (G1.it.sn (I := fun _ => False) (Sn.quiet K2.it 1) (fun x => x))
    generalize give (fun _ => 0) w1.heap.size 1 = own0 at A2 G2
    clear G1 K1 K2
    have X3 : Aside (Mw A w (give own0 w2.heap.size 6) (w2.alloc (.map #[] 0)) ca w2.heap.size room [] (fun _ => 0) 0) := ⟨by
      have k : Keeps Nowhere w2 (w2.alloc (.map #[] 0)) := (Keeps.refl _ _).alloc _
      exact ⟨G2.it.sn (I := fun _ => False) (Sn.quiet k 6) (fun x => x), A2.it.sn (I := fun _ => False) (Sn.quiet k 6) (fun x => x), MapN.made w2, give_new (Nat.le_refl _), fun x hx => by simp at hx⟩⟩
    generalize give own0 w2.heap.size 6 = own1 at X3
    clear G2 A2
    go_upto_region 8 with fail
    generalize w2.alloc (.map #[] 0) = w3 at X3 ⊢
    generalize w2.heap.size = mb at X3 ⊢
    go_loopw [8] (fun iv wr => ∃ (m : Nat) (own : Nat → Nat) (La : List Rx) (F : Int → Int) (n : Nat), iv = .int .i64 m ∧ (m ≤ n1 ∧ m ≤ 600) ∧ La.length ≤ m ∧ n ≤ m ∧ Aside (Mw A w own wr ca mb room La F n)) (fun iv _ => n1 - natI iv)
    case atStart => exact ⟨0, own1, [], _, 0, rfl, ⟨Nat.zero_le _, Nat.zero_le _⟩, Nat.le_refl _, Nat.le_refl _, X3⟩
    case round =>
      clear X3
      obtain ⟨m, own, La, F, n, rfl, hm, hla, hnm, X⟩ := hrel
      by_cases hlt : m < n1 ∧ m < 600
      · have k1 : (m : Int) < (n1 : Int) := by omega
        have k2 : (m : Int) < 600 := by omega
        obtain ⟨z, hz⟩ : ∃ z, ys[m]? = some z := ⟨_, List.getElem?_eq_getElem (by rw [E1.it]; exact hlt.1)⟩
        obtain ⟨b, o, rfl, op0⟩ := O1.it m z hz
        obtain ⟨g0, g1, g2, g3, g4, zok⟩ := op0.later X.it.og.g.bel
        clear op0 hz
        have KB : Aside (Keeps Nowhere wr (wr.alloc (.cells #[.int .i64 z.kd, .int .i64 z.k, .int .i64 z.v, .int .i64 z.w, .int .i64 z.u] 32))) := ⟨(Keeps.refl _ _).alloc _⟩
        have CB : Aside (CellsO (give own wr.heap.size 8) 8 (wr.alloc (.cells #[.int .i64 z.kd, .int .i64 z.k, .int .i64 z.v, .int .i64 z.w, .int .i64 z.u] 32)) wr.heap.size 32 z.cells) := ⟨Cells.new wr _ _, give_new (Nat.le_refl _)⟩
        have X1 := Aside.mk (X.it.sn (I := fun _ => False) (Sn.quiet KB.it 8) (fun x => x) (fun x => x) (fun x => x))
        go_upto_region 11 with fail
        generalize wr.alloc (.cells #[.int .i64 z.kd, .int .i64 z.k, .int .i64 z.v, .int .i64 z.w, .int .i64 z.u] 32) = W1 at CB X1 ⊢
        generalize give own wr.heap.size 8 = own1 at CB X1
        clear KB X
        generalize wr.heap.size = ob at CB ⊢
        clear g0 g1 g2 g3 g4
        have RW := Aside.mk (rows_ X1.it.a (show La.length * 30 ≤ 140737488355328 by omega) 5)
        go_upto_region 14 with (first | (go_at_call 8; refine RW.it.mono ?_; clear RW; rintro e w2 ⟨ra, rc, rfl, R2, K2⟩) | fail)
        have X2 := Aside.mk (X1.it.sn (I := fun _ => False) (Sn.quiet K2.it 5) (fun x => x) (fun x => x) (fun x => x))
        have CB2 := Aside.mk (CB.it.sn (I := fun _ => False) (Sn.quiet K2.it 5) (fun x => x))
        generalize give own1 W1.heap.size 5 = own2 at R2 X2 CB2
        clear X1 CB K2
        have g0 : w2.cell? ⟨ob, 0, none⟩ = some (.int .i64 z.kd) := CB2.it.1.cell 0
        have g1 : w2.cell? ⟨ob, 1, none⟩ = some (.int .i64 z.k) := CB2.it.1.cell 1
        have g2 : w2.cell? ⟨ob, 2, none⟩ = some (.int .i64 z.v) := CB2.it.1.cell 2
        have g3 : w2.cell? ⟨ob, 3, none⟩ = some (.int .i64 z.w) := CB2.it.1.cell 3
        have g4 : w2.cell? ⟨ob, 4, none⟩ = some (.int .i64 z.u) := CB2.it.1.cell 4
        have FI := Aside.mk (find_ (R2.it.rd3 rfl) z.k)
        obtain ⟨ai, hai⟩ : ∃ ai, atM La z.k = ai := ⟨_, rfl⟩
        have HAI := Aside.mk hai
        rw [hai] at FI
        clear hai
        go_upto_region 16 with (first | (go_at_call 9; refine FI.it.mono ?_; clear FI; rintro e w4 ⟨rfl, hw4⟩; have hw4 := hw4.symm; subst hw4) | fail)
        by_cases e1 : z.kd = 1
        · have q1 : (z.kd == 1) = true := by simp [e1]
          clear e1
          as_aux_lemma =>
            have PT := Aside.mk (lput_ X2.it.og.sents X2.it.a R2.it X2.it.m X2.it.o (by omega) X2.it.f zok (by omega))
            have pl := putB_len room La z
            go_wp2_with (first | (go_at_call 10; refine PT.it.mono ?_; clear PT; rintro e w5 ⟨rfl, own5, F5, n5, P5⟩) | fail)
            have X5 := Aside.mk (X2.it.put P5.it)
            have hn5 := P5.it.hn
            go_roundw
            case rel => exact ⟨m + 1, _, _, _, _, by go_num, by omega, by omega, by omega, X5⟩
            case measure => simp [natI]; omega
        · have q1 : (z.kd == 1) = false := by simp [e1]
          clear e1
          by_cases e2 : z.kd = 2
          · have q2 : (z.kd == 2) = true := by simp [e2]
            clear e2
            have GT := Aside.mk (get_i X2.it.a zok.k z.u)
            cases hf : findL La z.k with
            | none =>
              have eg : getL La z.k z.u = La := by unfold getL; rw [hf]
              have ew : woL La z.k = La := (filter_drop X2.it.a.lok.one z.k).trans (dropL_none hf)
              have e3 := HAI.it
              rw [atM_no hf] at e3
              subst e3
              rw [eg, show gotT La z.k z.u = 0 by unfold gotT; rw [hf], show gotB La z.k z.u = false by unfold gotB; rw [hf]] at GT
              clear hf eg
              as_aux_lemma =>
                go_upto_region 22 with (first | (go_at_call 11; refine GT.it.mono ?_; clear GT; rintro e w5 ⟨rfl, A5, S5⟩) | fail)
                have X5 := Aside.mk (X2.it.call S5.it A5.it (fun x hx => hx))
                have R5 := Aside.mk (R2.it.sn S5.it (by decide))
                have CB5 := Aside.mk (CB2.it.sn S5.it (by decide))
                clear g0 g1 g2 g3 g4 X2 R2 CB2 S5 A5
                go_quiet (fail)
                have kq : Aside (Keeps Nowhere w5 (w5.drewN nq)) := ⟨(Keeps.refl _ _).drewN _⟩
                generalize w5.drewN nq = w6 at kq ⊢
                have X6 := Aside.mk (X5.it.quiet kq.it)
                have R6 := Aside.mk (R5.it.sn (I := fun _ => False) (Sn.same kq.it) (fun x => x))
                have CB6 := Aside.mk (CB5.it.sn (I := fun _ => False) (Sn.same kq.it) (fun x => x))
                have g1 : w6.cell? ⟨ob, 1, none⟩ = some (.int .i64 z.k) := CB6.it.1.cell 1
                have WO := Aside.mk (without_ (own := fun _ => 0) (R6.it.rd3 rfl) z.k (by omega) 11)
                go_upto_region 25 with (first | (go_at_call 12; refine WO.it.mono ?_; clear WO; rintro e w7 ⟨wa, wc, rfl, D7, K7⟩) | fail)
                have X9 := Aside.mk (X6.it.quiet K7.it)
                have R9 := Aside.mk (R6.it.sn (I := fun _ => False) (Sn.same K7.it) (fun x => x))
                clear X5 X6 R5 R6 CB5 CB6 kq g1 K7
                rw [ew] at D7
                have V9 : Aside (Rd3 w7 (.slice wa La.length wc) La) := ⟨D7.it.rd3 rfl⟩
                have RT := Aside.mk (rows_ X9.it.a (show La.length * 30 ≤ 140737488355328 by omega) 5)
                go_upto_region 46 with (first | (go_at_call 8; refine RT.it.mono ?_; clear RT; rintro e wt ⟨ta, tc, rfl, NT, KT⟩) | fail)
                have XT := Aside.mk (X9.it.quiet KT.it)
                have AL := Aside.mk (alikeD (NT.it.rd3 rfl) (V9.it.quiet KT.it))
                rw [decide_eq_true rfl] at AL
                have e1 : ((La.length : Int) == (La.length : Int)) = true := by simp
                have e2 : decide (room < sumL La) = false := decide_eq_false (by have := X9.it.a.lok.sum; omega)
                clear NT V9 X9 KT
                go_wp2_with (first
                  | (go_at_call 15; refine AL.it.mono ?_; clear AL; rintro e w8 ⟨rfl, nd, hw8⟩
                     have X8 := Aside.mk (XT.it.quiet (show Keeps Nowhere wt w8 by rw [hw8]; exact (Keeps.refl _ _).drewN nd))
                     clear hw8
                     have LE := Aside.mk (len_o X8.it.a)
                     have WE := Aside.mk (lweight_o X8.it.a))
                  | (go_at_call 16; refine LE.it.mono ?_; clear LE; rintro e w10 ⟨rfl, hw⟩; have hw := hw.symm; subst hw)
                  | (go_at_call 17; refine WE.it.mono ?_; clear WE; rintro e w10 ⟨rfl, hw⟩; have hw := hw.symm; subst hw)
                  | fail)
                go_roundw
                case rel => exact ⟨m + 1, _, _, _, _, by go_num, by omega, by omega, by omega, X8⟩
                case measure => simp [natI]; omega
            | some x =>
              obtain ⟨j, hj1, hj2⟩ := atM_find hf
              have e3 := HAI.it
              rw [hj1] at e3
              subst e3
              have hjl : j < La.length := (List.getElem?_eq_some_iff.1 hj2).1
              have hdl := getL_len La z.k z.u
              have ew0 : woL La z.k = dropL La z.k := filter_drop X2.it.a.lok.one z.k
              obtain ⟨gx, gy, e, c0, cx1, cx2⟩ := (R2.it.rd3 rfl).at0 hj2
              subst e
              have HJ := Aside.mk hj2
              have HX := Aside.mk (And.intro c0 (And.intro cx1 cx2))
              have jb : (j : Int) < (La.length : Int) := by omega
              by_cases hu : z.u < x.u
              · have eg : getL La z.k z.u = x :: dropL La z.k := by unfold getL; rw [hf]; exact if_pos hu
                rw [eg, show gotT La z.k z.u = x.t by unfold gotT; rw [hf]; exact if_pos hu, show gotB La z.k z.u = true by unfold gotB; rw [hf]; exact decide_eq_true hu] at GT
                rw [eg] at hdl
                have hsub := getL_sub La z.k z.u
                rw [eg] at hsub
                obtain ⟨D, hD⟩ : ∃ D, dropL La z.k = D := ⟨_, rfl⟩
                rw [hD] at GT ew0 hdl hsub
                have HSUB := Aside.mk hsub
                have ew : woL La z.k = D := ew0
                have qu : decide (z.u < x.u) = true := decide_eq_true hu
                clear hf eg hD hj1 hj2 hsub ew0 hu c0 cx1 cx2
                as_aux_lemma =>
                  go_upto_region 22 with (first | (go_at_call 11; refine GT.it.mono ?_; clear GT; rintro e w5 ⟨rfl, A5, S5⟩) | fail)
                  have X5 := Aside.mk (X2.it.call S5.it A5.it HSUB.it)
                  have R5 := Aside.mk (R2.it.sn S5.it (by decide))
                  have CB5 := Aside.mk (CB2.it.sn S5.it (by decide))
                  have hne : ¬ (own2 gx = 1) := by have := (R2.it.2 gx rfl).1; omega
                  have hbk := S5.it.keeps.block gx (World.block_lt_of_cell? w2 _ HX.it.1) hne
                  clear hne
                  have p0 : w5.cell? ⟨gx, gy + j * 3, none⟩ = some (.int .i64 x.k) := by rw [World.cell?_of_block (w := w2) hbk]; exact HX.it.1
                  have p1 : w5.cell? ⟨gx, gy + j * 3 + 1, none⟩ = some (.int .i64 x.t) := by rw [World.cell?_of_block (w := w2) hbk]; exact HX.it.2.1
                  have p2 : w5.cell? ⟨gx, gy + j * 3 + 2, none⟩ = some (.int .i64 x.u) := by rw [World.cell?_of_block (w := w2) hbk]; exact HX.it.2.2
                  clear g0 g1 g2 g3 g4 X2 R2 CB2 S5 A5 HX hbk
                  have g4 : w5.cell? ⟨ob, 4, none⟩ = some (.int .i64 z.u) := CB5.it.1.cell 4
                  have qa : decide ((0 : Int) ≤ (j : Int)) = true := decide_eq_true (by omega)
                  go_quiet (fail)
                  have kq : Aside (Keeps Nowhere w5 (w5.drewN nq)) := ⟨(Keeps.refl _ _).drewN _⟩
                  generalize w5.drewN nq = w6 at kq ⊢
                  have X6 := Aside.mk (X5.it.quiet kq.it)
                  have R6 := Aside.mk (R5.it.sn (I := fun _ => False) (Sn.same kq.it) (fun x => x))
                  have CB6 := Aside.mk (CB5.it.sn (I := fun _ => False) (Sn.same kq.it) (fun x => x))
                  have g1 : w6.cell? ⟨ob, 1, none⟩ = some (.int .i64 z.k) := CB6.it.1.cell 1
                  have WO := Aside.mk (without_ (own := fun _ => 0) (R6.it.rd3 rfl) z.k (by omega) 11)
                  go_upto_region 25 with (first | (go_at_call 12; refine WO.it.mono ?_; clear WO; rintro e w7 ⟨wa, wc, rfl, D7, K7⟩) | fail)
                  have X9 := Aside.mk (X6.it.quiet K7.it)
                  have R9 := Aside.mk (R6.it.sn (I := fun _ => False) (Sn.same K7.it) (fun x => x))
                  clear X5 X6 R5 R6 CB5 CB6 kq g1 K7
                  clear p0 p1 p2 g4
                  rw [ew] at D7
                  obtain ⟨_, _, e, p0, p1, p2⟩ := (R9.it.rd3 rfl).at0 HJ.it
                  injection e with e
                  injection e with e1 e2 _
                  subst e1 e2
                  have OE := Aside.mk (owns_one3 w7 x)
                  have RR := Aside.mk ((owns_readsK D7.it.1).later (S := Nowhere) ((Keeps.refl _ _).alloc (.cells (c3 x).toArray 41)) (fun _ _ x => x))
                  have hd2 : 1 + D.length ≤ m + 1 := by simp at hdl; omega
                  have b1 : 1 + D.length ≤ maxLen := by omega
                  have b2 : (1 + D.length) * 24 ≤ 140737488355328 := by omega
                  go_upto_region 45 with (first
                    | (at_builtin; refine wpList_appendR rfl _ _ 33 rfl 41 (.agg #[.int .i64 0, .int .i64 0, .int .i64 0]) 3 24 Tryd.underlying33 info3 rfl (by decide) (w7.alloc (.cells (c3 x).toArray 41)) (Keeps.refl _ _) w7.heap.size _ 1 _ OE.it _ D.length _ RR.it (r3_one _) b2 b1 (by rw [World.size_alloc]; omega) rfl rfl ?_
                       intro v8 w8 o8 k8 b8
                       have K8 : Aside (Keeps Nowhere w7 w8) := ⟨((Keeps.refl Nowhere w7).alloc _).next k8.it (fun x e hlt => by simp [Value.ownBlock] at e; omega)⟩
                       have O8 := Aside.mk o8.it
                       clear o8 k8 b8)
                    | fail)
                  obtain ⟨L9, h9⟩ : ∃ L9, x :: D = L9 := ⟨_, rfl⟩
                  have Y9 := Aside.mk (X9.it.quiet K8.it)
                  clear X9
                  have X9 := Y9
                  have V9 : Aside (Rd3 w8 v8 L9) := ⟨by
                    have h := O8.it
                    rw [show c3 x ++ r3 D = r3 L9 by rw [← h9]; rfl] at h
                    exact owns_rd3 (owns_any h) (by rw [← h9, List.length_cons]; omega)⟩
                  have hl9 : L9.length ≤ m + 1 := by rw [← h9, List.length_cons]; omega
                  rw [h9] at X9
                  clear Y9 O8 OE RR h9 R9 p0 p1 p2 HJ
                  have RT := Aside.mk (rows_ X9.it.a (show L9.length * 30 ≤ 140737488355328 by omega) 5)
                  go_upto_region 46 with (first | (go_at_call 8; refine RT.it.mono ?_; clear RT; rintro e wt ⟨ta, tc, rfl, NT, KT⟩) | fail)
                  have XT := Aside.mk (X9.it.quiet KT.it)
                  have AL := Aside.mk (alikeD (NT.it.rd3 rfl) (V9.it.quiet KT.it))
                  rw [decide_eq_true rfl] at AL
                  have e1 : ((L9.length : Int) == (L9.length : Int)) = true := by simp
                  have e2 : decide (room < sumL L9) = false := decide_eq_false (by have := X9.it.a.lok.sum; omega)
                  clear NT V9 X9 KT
                  go_wp2_with (first
                    | (go_at_call 15; refine AL.it.mono ?_; clear AL; rintro e w8 ⟨rfl, nd, hw8⟩
                       have X8 := Aside.mk (XT.it.quiet (show Keeps Nowhere wt w8 by rw [hw8]; exact (Keeps.refl _ _).drewN nd))
                       clear hw8
                       have LE := Aside.mk (len_o X8.it.a)
                       have WE := Aside.mk (lweight_o X8.it.a))
                    | (go_at_call 16; refine LE.it.mono ?_; clear LE; rintro e w10 ⟨rfl, hw⟩; have hw := hw.symm; subst hw)
                    | (go_at_call 17; refine WE.it.mono ?_; clear WE; rintro e w10 ⟨rfl, hw⟩; have hw := hw.symm; subst hw)
                    | fail)
                  go_roundw
                  case rel => exact ⟨m + 1, _, _, _, _, by go_num, by omega, by omega, by omega, X8⟩
                  case measure => simp [natI]; omega
              · have eg : getL La z.k z.u = dropL La z.k := by unfold getL; rw [hf]; exact if_neg hu
                rw [eg, show gotT La z.k z.u = 0 by unfold gotT; rw [hf]; exact if_neg hu, show gotB La z.k z.u = false by unfold gotB; rw [hf]; exact decide_eq_false hu] at GT
                rw [eg] at hdl
                have hsub := getL_sub La z.k z.u
                rw [eg] at hsub
                obtain ⟨D, hD⟩ : ∃ D, dropL La z.k = D := ⟨_, rfl⟩
                rw [hD] at GT ew0 hdl hsub
                have HSUB := Aside.mk hsub
                have ew : woL La z.k = D := ew0
                have qu : decide (z.u < x.u) = false := decide_eq_false hu
                clear hf eg hD hj1 hsub ew0 hu c0 cx1 cx2
                as_aux_lemma =>
                  go_upto_region 22 with (first | (go_at_call 11; refine GT.it.mono ?_; clear GT; rintro e w5 ⟨rfl, A5, S5⟩) | fail)
                  have X5 := Aside.mk (X2.it.call S5.it A5.it HSUB.it)
                  have R5 := Aside.mk (R2.it.sn S5.it (by decide))
                  have CB5 := Aside.mk (CB2.it.sn S5.it (by decide))
                  have hne : ¬ (own2 gx = 1) := by have := (R2.it.2 gx rfl).1; omega
                  have hbk := S5.it.keeps.block gx (World.block_lt_of_cell? w2 _ HX.it.1) hne
                  clear hne
                  have p0 : w5.cell? ⟨gx, gy + j * 3, none⟩ = some (.int .i64 x.k) := by rw [World.cell?_of_block (w := w2) hbk]; exact HX.it.1
                  have p1 : w5.cell? ⟨gx, gy + j * 3 + 1, none⟩ = some (.int .i64 x.t) := by rw [World.cell?_of_block (w := w2) hbk]; exact HX.it.2.1
                  have p2 : w5.cell? ⟨gx, gy + j * 3 + 2, none⟩ = some (.int .i64 x.u) := by rw [World.cell?_of_block (w := w2) hbk]; exact HX.it.2.2
                  clear g0 g1 g2 g3 g4 X2 R2 CB2 S5 A5 HX hbk
                  have g4 : w5.cell? ⟨ob, 4, none⟩ = some (.int .i64 z.u) := CB5.it.1.cell 4
                  have qa : decide ((0 : Int) ≤ (j : Int)) = true := decide_eq_true (by omega)
                  go_quiet (fail)
                  have kq : Aside (Keeps Nowhere w5 (w5.drewN nq)) := ⟨(Keeps.refl _ _).drewN _⟩
                  generalize w5.drewN nq = w6 at kq ⊢
                  have X6 := Aside.mk (X5.it.quiet kq.it)
                  have R6 := Aside.mk (R5.it.sn (I := fun _ => False) (Sn.same kq.it) (fun x => x))
                  have CB6 := Aside.mk (CB5.it.sn (I := fun _ => False) (Sn.same kq.it) (fun x => x))
                  have g1 : w6.cell? ⟨ob, 1, none⟩ = some (.int .i64 z.k) := CB6.it.1.cell 1
                  have WO := Aside.mk (without_ (own := fun _ => 0) (R6.it.rd3 rfl) z.k (by omega) 11)
                  go_upto_region 25 with (first | (go_at_call 12; refine WO.it.mono ?_; clear WO; rintro e w7 ⟨wa, wc, rfl, D7, K7⟩) | fail)
                  have X9 := Aside.mk (X6.it.quiet K7.it)
                  have R9 := Aside.mk (R6.it.sn (I := fun _ => False) (Sn.same K7.it) (fun x => x))
                  clear X5 X6 R5 R6 CB5 CB6 kq g1 K7
                  rw [ew] at D7
                  have V9 : Aside (Rd3 w7 (.slice wa D.length wc) D) := ⟨D7.it.rd3 rfl⟩
                  clear p0 p1 p2 g4 R9 D7
                  have RT := Aside.mk (rows_ X9.it.a (show D.length * 30 ≤ 140737488355328 by omega) 5)
                  go_upto_region 46 with (first | (go_at_call 8; refine RT.it.mono ?_; clear RT; rintro e wt ⟨ta, tc, rfl, NT, KT⟩) | fail)
                  have XT := Aside.mk (X9.it.quiet KT.it)
                  have AL := Aside.mk (alikeD (NT.it.rd3 rfl) (V9.it.quiet KT.it))
                  rw [decide_eq_true rfl] at AL
                  have e1 : ((D.length : Int) == (D.length : Int)) = true := by simp
                  have e2 : decide (room < sumL D) = false := decide_eq_false (by have := X9.it.a.lok.sum; omega)
                  clear NT V9 X9 KT
                  go_wp2_with (first
                    | (go_at_call 15; refine AL.it.mono ?_; clear AL; rintro e w8 ⟨rfl, nd, hw8⟩
                       have X8 := Aside.mk (XT.it.quiet (show Keeps Nowhere wt w8 by rw [hw8]; exact (Keeps.refl _ _).drewN nd))
                       clear hw8
                       have LE := Aside.mk (len_o X8.it.a)
                       have WE := Aside.mk (lweight_o X8.it.a))
                    | (go_at_call 16; refine LE.it.mono ?_; clear LE; rintro e w10 ⟨rfl, hw⟩; have hw := hw.symm; subst hw)
                    | (go_at_call 17; refine WE.it.mono ?_; clear WE; rintro e w10 ⟨rfl, hw⟩; have hw := hw.symm; subst hw)
                    | fail)
                  go_roundw
                  case rel => exact ⟨m + 1, _, _, _, _, by go_num, by omega, by omega, by omega, X8⟩
                  case measure => simp [natI]; omega
          · have q2 : (z.kd == 2) = false := by simp [e2]
            clear e2
            by_cases e4 : z.kd = 4
            · have q4 : (z.kd == 4) = true := by simp [e4]
              clear e4
              have DT := Aside.mk (drop_o X2.it.a (k := z.k) zok.k)
              have ew0 : woL La z.k = dropL La z.k := filter_drop X2.it.a.lok.one z.k
              have hdl := dropL_len (L := La) (k := z.k)
              have HSUB : Aside (∀ x ∈ dropL La z.k, x ∈ La) := ⟨fun x hx => dropL_sub.subset hx⟩
              obtain ⟨D, hD⟩ : ∃ D, dropL La z.k = D := ⟨_, rfl⟩
              rw [hD] at DT ew0 hdl HSUB
              have ew : woL La z.k = D := ew0
              clear hD ew0
              cases hf : findL La z.k with
              | none =>
                have e3 := HAI.it
                rw [atM_no hf] at e3
                subst e3
                rw [show hasL La z.k = false by unfold hasL; rw [hf]; rfl] at DT
                clear hf
                as_aux_lemma =>
                  go_upto_region 30 with (first | (go_at_call 13; refine DT.it.mono ?_; clear DT; rintro e w5 ⟨rfl, A5, S5⟩) | fail)
                  have X5 := Aside.mk (X2.it.call S5.it A5.it HSUB.it)
                  have R5 := Aside.mk (R2.it.sn S5.it (by decide))
                  have CB5 := Aside.mk (CB2.it.sn S5.it (by decide))
                  clear g0 g1 g2 g3 g4 X2 R2 CB2 S5 A5
                  have g1 : w5.cell? ⟨ob, 1, none⟩ = some (.int .i64 z.k) := CB5.it.1.cell 1
                  have WO := Aside.mk (without_ (own := fun _ => 0) (R5.it.rd3 rfl) z.k (by omega) 11)
                  go_upto_region 45 with (first | (go_at_call 12; refine WO.it.mono ?_; clear WO; rintro e w7 ⟨wa, wc, rfl, D7, K7⟩) | fail)
                  rw [ew] at D7
                  have X9 := Aside.mk (X5.it.quiet K7.it)
                  have V9 : Aside (Rd3 w7 (.slice wa D.length wc) D) := ⟨D7.it.rd3 rfl⟩
                  clear X5 R5 CB5 g1 K7 D7
                  have RT := Aside.mk (rows_ X9.it.a (show D.length * 30 ≤ 140737488355328 by omega) 5)
                  go_upto_region 46 with (first | (go_at_call 8; refine RT.it.mono ?_; clear RT; rintro e wt ⟨ta, tc, rfl, NT, KT⟩) | fail)
                  have XT := Aside.mk (X9.it.quiet KT.it)
                  have AL := Aside.mk (alikeD (NT.it.rd3 rfl) (V9.it.quiet KT.it))
                  rw [decide_eq_true rfl] at AL
                  have e1 : ((D.length : Int) == (D.length : Int)) = true := by simp
                  have e2 : decide (room < sumL D) = false := decide_eq_false (by have := X9.it.a.lok.sum; omega)
                  clear NT V9 X9 KT
                  go_wp2_with (first
                    | (go_at_call 15; refine AL.it.mono ?_; clear AL; rintro e w8 ⟨rfl, nd, hw8⟩
                       have X8 := Aside.mk (XT.it.quiet (show Keeps Nowhere wt w8 by rw [hw8]; exact (Keeps.refl _ _).drewN nd))
                       clear hw8
                       have LE := Aside.mk (len_o X8.it.a)
                       have WE := Aside.mk (lweight_o X8.it.a))
                    | (go_at_call 16; refine LE.it.mono ?_; clear LE; rintro e w10 ⟨rfl, hw⟩; have hw := hw.symm; subst hw)
                    | (go_at_call 17; refine WE.it.mono ?_; clear WE; rintro e w10 ⟨rfl, hw⟩; have hw := hw.symm; subst hw)
                    | fail)
                  go_roundw
                  case rel => exact ⟨m + 1, _, _, _, _, by go_num, by omega, by omega, by omega, X8⟩
                  case measure => simp [natI]; omega
              | some x =>
                obtain ⟨j, hj1, _⟩ := atM_find hf
                have e3 := HAI.it
                rw [hj1] at e3
                subst e3
                rw [show hasL La z.k = true by unfold hasL; rw [hf]; rfl] at DT
                have qa : decide ((0 : Int) ≤ (j : Int)) = true := decide_eq_true (by omega)
                clear hf hj1
                as_aux_lemma =>
                  go_upto_region 30 with (first | (go_at_call 13; refine DT.it.mono ?_; clear DT; rintro e w5 ⟨rfl, A5, S5⟩) | fail)
                  have X5 := Aside.mk (X2.it.call S5.it A5.it HSUB.it)
                  have R5 := Aside.mk (R2.it.sn S5.it (by decide))
                  have CB5 := Aside.mk (CB2.it.sn S5.it (by decide))
                  clear g0 g1 g2 g3 g4 X2 R2 CB2 S5 A5
                  have g1 : w5.cell? ⟨ob, 1, none⟩ = some (.int .i64 z.k) := CB5.it.1.cell 1
                  have WO := Aside.mk (without_ (own := fun _ => 0) (R5.it.rd3 rfl) z.k (by omega) 11)
                  go_upto_region 45 with (first | (go_at_call 12; refine WO.it.mono ?_; clear WO; rintro e w7 ⟨wa, wc, rfl, D7, K7⟩) | fail)
                  rw [ew] at D7
                  have X9 := Aside.mk (X5.it.quiet K7.it)
                  have V9 : Aside (Rd3 w7 (.slice wa D.length wc) D) := ⟨D7.it.rd3 rfl⟩
                  clear X5 R5 CB5 g1 K7 D7
                  have RT := Aside.mk (rows_ X9.it.a (show D.length * 30 ≤ 140737488355328 by omega) 5)
                  go_upto_region 46 with (first | (go_at_call 8; refine RT.it.mono ?_; clear RT; rintro e wt ⟨ta, tc, rfl, NT, KT⟩) | fail)
                  have XT := Aside.mk (X9.it.quiet KT.it)
                  have AL := Aside.mk (alikeD (NT.it.rd3 rfl) (V9.it.quiet KT.it))
                  rw [decide_eq_true rfl] at AL
                  have e1 : ((D.length : Int) == (D.length : Int)) = true := by simp
                  have e2 : decide (room < sumL D) = false := decide_eq_false (by have := X9.it.a.lok.sum; omega)
                  clear NT V9 X9 KT
                  go_wp2_with (first
                    | (go_at_call 15; refine AL.it.mono ?_; clear AL; rintro e w8 ⟨rfl, nd, hw8⟩
                       have X8 := Aside.mk (XT.it.quiet (show Keeps Nowhere wt w8 by rw [hw8]; exact (Keeps.refl _ _).drewN nd))
                       clear hw8
                       have LE := Aside.mk (len_o X8.it.a)
                       have WE := Aside.mk (lweight_o X8.it.a))
                    | (go_at_call 16; refine LE.it.mono ?_; clear LE; rintro e w10 ⟨rfl, hw⟩; have hw := hw.symm; subst hw)
                    | (go_at_call 17; refine WE.it.mono ?_; clear WE; rintro e w10 ⟨rfl, hw⟩; have hw := hw.symm; subst hw)
                    | fail)
                  go_roundw
                  case rel => exact ⟨m + 1, _, _, _, _, by go_num, by omega, by omega, by omega, X8⟩
                  case measure => simp [natI]; omega
            · have q4 : (z.kd == 4) = false := by simp [e4]
              clear e4
              by_cases e5 : z.kd = 5
              · have q5 : (z.kd == 5) = true := by simp [e5]
                clear e5
                have EX := Aside.mk (expire_o X2.it.a (show La.length * 8 ≤ 140737488355328 by omega) z.u 9)
                go_upto_region 33 with (first | (go_at_call 14; refine EX.it.mono ?_; clear EX; rintro e w5 ⟨gv, rfl, J5, S5⟩; obtain ⟨ga, gn, gc, rfl⟩ := owns_shapeK J5.it.2.1) | fail)
                have hgn : gn = (oldL La z.u).length := by
                  rcases J5.it.2.1.2 with ⟨e, h0⟩ | ⟨g, cap, cur, e, _⟩
                  · injection e with _ e2 _; omega
                  · injection e
                have HGN := Aside.mk hgn
                rw [← hgn] at J5
                clear hgn
                generalize give own2 w2.heap.size 9 = own5 at J5 S5
                have X5 := Aside.mk (X2.it.call S5.it J5.it.1 (fun x hx => (List.mem_filter.1 hx).1))
                have R5 := Aside.mk (R2.it.sn S5.it (by decide))
                have CB5 := Aside.mk (CB2.it.sn S5.it (by decide))
                have G5 := Aside.mk J5.it.2
                obtain ⟨_, _, gc', e, _, hg3, _, hg4⟩ := owns_readsK G5.it.1
                injection e with e1 e2 e3
                subst e1 e3
                have HC := Aside.mk hg4
                clear g0 g1 g2 g3 g4 X2 R2 CB2 S5 J5 hg4
                have hsl := stayL_len La z.u
                obtain ⟨S, hS⟩ : ∃ S, stayL La z.u = S := ⟨_, rfl⟩
                have HS9 := Aside.mk hS
                rw [hS] at X5 hsl
                clear hS
                go_upto_region 36 with fail
                go_loopw [13, 17, 18] (fun ov kv jv wx => ∃ (j kk mm : Nat) (qa : Option Addr) (qc : Nat), ov = .slice qa mm qc ∧ kv = .int .i64 kk ∧ jv = .int .i64 j ∧ j ≤ La.length ∧ mm ≤ j ∧ kk ≤ j ∧ Aside (mm = (stayL (La.take j) z.u).length) ∧ Aside (kk = (oldL (La.take j) z.u).length) ∧ Aside (wx.ownsRow w5.heap.size 41 3 (.slice qa mm qc) mm (r3 (stayL (La.take j) z.u))) ∧ Aside (Keeps Nowhere w5 wx)) (fun _ _ jv _ => La.length - natI jv)
                case atStart => exact ⟨0, 0, 0, none, 0, rfl, rfl, rfl, Nat.zero_le _, Nat.le_refl _, Nat.le_refl _, ⟨rfl⟩, ⟨rfl⟩, ⟨World.ownsRow_nil _ _ _ _⟩, ⟨Keeps.refl _ _⟩⟩
                case round =>
                  obtain ⟨j, kk, mm, qa, qc, rfl, rfl, rfl, hj, hmm, hkk, HMM, HKK, O, K⟩ := hrel
                  rcases Nat.eq_or_lt_of_le hj with hje | hjt
                  · subst hje
                    have e1 := HMM.it
                    have e2 := HKK.it
                    rw [List.take_length] at e1 e2 O
                    rw [← HGN.it] at e2
                    rw [HS9.it] at e1 O
                    subst e1 e2
                    have eq1 : ((kk : Int) == (kk : Int)) = true := by simp
                    have X9 := Aside.mk (X5.it.quiet K.it)
                    have V9 : Aside (Rd3 wr (.slice qa S.length qc) S) := ⟨owns_rd3 (owns_any O.it) rfl⟩
                    clear O X5 R5 CB5 G5
                    as_aux_lemma =>
                      go_upto_region 45 with fail
                      have RT := Aside.mk (rows_ X9.it.a (show S.length * 30 ≤ 140737488355328 by omega) 5)
                      go_upto_region 46 with (first | (go_at_call 8; refine RT.it.mono ?_; clear RT; rintro e wt ⟨ta, tc, rfl, NT, KT⟩) | fail)
                      have XT := Aside.mk (X9.it.quiet KT.it)
                      have AL := Aside.mk (alikeD (NT.it.rd3 rfl) (V9.it.quiet KT.it))
                      rw [decide_eq_true rfl] at AL
                      have e1 : ((S.length : Int) == (S.length : Int)) = true := by simp
                      have e2 : decide (room < sumL S) = false := decide_eq_false (by have := X9.it.a.lok.sum; omega)
                      clear NT V9 X9 KT
                      go_wp2_with (first
                        | (go_at_call 15; refine AL.it.mono ?_; clear AL; rintro e w8 ⟨rfl, nd, hw8⟩
                           have X8 := Aside.mk (XT.it.quiet (show Keeps Nowhere wt w8 by rw [hw8]; exact (Keeps.refl _ _).drewN nd))
                           clear hw8
                           have LE := Aside.mk (len_o X8.it.a)
                           have WE := Aside.mk (lweight_o X8.it.a))
                        | (go_at_call 16; refine LE.it.mono ?_; clear LE; rintro e w10 ⟨rfl, hw⟩; have hw := hw.symm; subst hw)
                        | (go_at_call 17; refine WE.it.mono ?_; clear WE; rintro e w10 ⟨rfl, hw⟩; have hw := hw.symm; subst hw)
                        | fail)
                      go_roundw
                      case rel => exact ⟨m + 1, _, _, _, _, by go_num, by omega, by omega, by omega, X8⟩
                      case measure => simp [natI]; omega
                  · have hjt' : (j : Int) < (La.length : Int) := by omega
                    obtain ⟨y, hy⟩ : ∃ y, La[j]? = some y := ⟨_, List.getElem?_eq_getElem hjt⟩
                    obtain ⟨gx, gy, e, c0, c1', c2⟩ := (R5.it.rd3 rfl).at0 hy
                    subst e
                    have hbk := K.it.block gx (World.block_lt_of_cell? w5 _ c0) (fun x => x)
                    have p0 : wr.cell? ⟨gx, gy + j * 3, none⟩ = some (.int .i64 y.k) := by rw [World.cell?_of_block (w := w5) hbk]; exact c0
                    have p1 : wr.cell? ⟨gx, gy + j * 3 + 1, none⟩ = some (.int .i64 y.t) := by rw [World.cell?_of_block (w := w5) hbk]; exact c1'
                    have p2 : wr.cell? ⟨gx, gy + j * 3 + 2, none⟩ = some (.int .i64 y.u) := by rw [World.cell?_of_block (w := w5) hbk]; exact c2
                    have g4 : wr.cell? ⟨ob, 4, none⟩ = some (.int .i64 z.u) := (CB5.it.1.later K.it (fun x => x)).cell 4
                    have HY := Aside.mk hy
                    have HP := Aside.mk (And.intro p0 (And.intro p1 p2))
                    clear hy hbk c0 c1' c2
                    by_cases hu : z.u < y.u
                    · have qu : decide (z.u < y.u) = true := decide_eq_true hu
                      have HE := Aside.mk (stay_take HY.it hu)
                      clear hu
                      as_aux_lemma =>
                        go_wp2_with fail
                        go_quiet (fail)
                        have kd : Aside (Keeps Nowhere wr (wr.drewN nq)) := ⟨(Keeps.refl _ _).drewN _⟩
                        have O2 := Aside.mk (owns_later O.it kd.it (fun _ _ x => x))
                        have K2 := Aside.mk (K.it.trans kd.it)
                        have hbk := kd.it.block gx (World.block_lt_of_cell? wr _ p0) (fun x => x)
                        clear p0 p1 p2 g4
                        have p0 : (wr.drewN nq).cell? ⟨gx, gy + j * 3, none⟩ = some (.int .i64 y.k) := by rw [World.cell?_of_block (w := wr) hbk]; exact HP.it.1
                        have p1 : (wr.drewN nq).cell? ⟨gx, gy + j * 3 + 1, none⟩ = some (.int .i64 y.t) := by rw [World.cell?_of_block (w := wr) hbk]; exact HP.it.2.1
                        have p2 : (wr.drewN nq).cell? ⟨gx, gy + j * 3 + 2, none⟩ = some (.int .i64 y.u) := by rw [World.cell?_of_block (w := wr) hbk]; exact HP.it.2.2
                        generalize wr.drewN nq = wy at O2 K2 p0 p1 p2 ⊢
                        clear hbk kd
                        have b1 : (mm + 1) * 24 ≤ 140737488355328 := by omega
                        have b2 : mm + 1 ≤ maxLen := by omega
                        have b3 : w5.heap.size ≤ wy.heap.size := K2.it.size
                        go_wp2_with (first
                          | (at_builtin; refine wpList_appendR rfl _ _ 33 rfl 41 (.agg #[.int .i64 0, .int .i64 0, .int .i64 0]) 3 24 Tryd.underlying33 info3 rfl (by decide) wy ((Keeps.refl _ _).alloc _) w5.heap.size _ mm _ O2.it _ 1 (c3 y) (readsK_new wy 41 (c3 y)) (by simp [c3, Value.oneCell']) b1 b2 b3 rfl rfl ?_
                             intro v' w' o5 k5 b5
                             have K5 : Aside (Keeps Nowhere w5 w') := ⟨(K2.it.alloc _).next k5.it (fun x e hlt => by have h1 := owns_base O2.it x e; omega)⟩
                             obtain ⟨p1, p2, p3, hv'⟩ := owns_shapeK o5.it
                             obtain rfl : p2 = mm + 1 := (by
                               rcases o5.it.2 with ⟨e, h0⟩ | ⟨g, cap, cur, e, _⟩
                               · exact absurd h0 (by omega)
                               · rw [hv'] at e; injection e)
                             subst hv')
                          | fail)
                        go_roundw
                        case rel =>
                          refine ⟨j + 1, kk, mm + 1, p1, p3, rfl, rfl, by go_num, hjt, by omega, by omega, ⟨?_⟩, ⟨?_⟩, ⟨?_⟩, K5⟩
                          · rw [HE.it.1, List.length_append, HMM.it]; rfl
                          · rw [HE.it.2]; exact HKK.it
                          · rw [HE.it.1, r3_snoc]; exact o5.it
                        case measure => simp [natI]; omega
                    · have qu : decide (z.u < y.u) = false := decide_eq_false hu
                      have HE := Aside.mk (old_take HY.it hu)
                      have ho := old_at HY.it hu
                      rw [← HKK.it] at ho
                      have hkg : kk < gn := by rw [HGN.it]; exact (List.getElem?_eq_some_iff.1 ho).1
                      obtain ⟨gg, go, e, v0⟩ := HC.it kk _ (rk_at ho)
                      subst e
                      have v0 : wr.cell? ⟨gg, go + kk, none⟩ = some (.int .i64 y.k) := by rw [World.cell?_of_block (w := w5) (K.it.block gg (World.block_lt_of_cell? w5 _ v0) (fun x => x))]; exact v0
                      have kg1 : decide ((gn : Int) ≤ (kk : Int)) = false := decide_eq_false (by omega)
                      have kg2 : (kk : Int) < (gn : Int) := by omega
                      have HP2 := Aside.mk v0
                      clear hu ho
                      as_aux_lemma =>
                        go_wp2_with fail
                        go_quiet (fail)
                        have kd : Aside (Keeps Nowhere wr (wr.drewN nq)) := ⟨(Keeps.refl _ _).drewN _⟩
                        have hbk := kd.it.block gx (World.block_lt_of_cell? wr _ p0) (fun x => x)
                        have hbk2 := kd.it.block gg (World.block_lt_of_cell? wr _ v0) (fun x => x)
                        clear p0 p1 p2 g4 v0
                        have p0 : (wr.drewN nq).cell? ⟨gx, gy + j * 3, none⟩ = some (.int .i64 y.k) := by rw [World.cell?_of_block (w := wr) hbk]; exact HP.it.1
                        have v0 : (wr.drewN nq).cell? ⟨gg, go + kk, none⟩ = some (.int .i64 y.k) := by rw [World.cell?_of_block (w := wr) hbk2]; exact HP2.it
                        generalize wr.drewN nq = wy at p0 v0 kd ⊢
                        clear hbk hbk2
                        go_wp2_with fail
                        go_quiet (fail)
                        go_wp2_with fail
                        go_roundw
                        case rel =>
                          refine ⟨j + 1, kk + 1, mm, qa, qc, rfl, by go_num, by go_num, hjt, by omega, by omega, ⟨?_⟩, ⟨?_⟩, ⟨?_⟩, ⟨(K.it.trans kd.it).drewN _⟩⟩
                          · rw [HE.it.1]; exact HMM.it
                          · rw [HE.it.2, List.length_append, HKK.it]; rfl
                          · rw [HE.it.1]; exact owns_later O.it (kd.it.drewN _) (fun _ _ x => x)
                        case measure => simp [natI]; omega
              · have q5 : (z.kd == 5) = false := by simp [e5]
                clear e5
                have X9 := X2
                have V9 := Aside.mk (R2.it.rd3 rfl)
                clear X2 R2
                as_aux_lemma =>
                  have RT := Aside.mk (rows_ X9.it.a (show La.length * 30 ≤ 140737488355328 by omega) 5)
                  go_upto_region 46 with (first | (go_at_call 8; refine RT.it.mono ?_; clear RT; rintro e wt ⟨ta, tc, rfl, NT, KT⟩) | fail)
                  have XT := Aside.mk (X9.it.quiet KT.it)
                  have AL := Aside.mk (alikeD (NT.it.rd3 rfl) (V9.it.quiet KT.it))
                  rw [decide_eq_true rfl] at AL
                  have e1 : ((La.length : Int) == (La.length : Int)) = true := by simp
                  have e2 : decide (room < sumL La) = false := decide_eq_false (by have := X9.it.a.lok.sum; omega)
                  clear NT V9 X9 KT
                  go_wp2_with (first
                    | (go_at_call 15; refine AL.it.mono ?_; clear AL; rintro e w8 ⟨rfl, nd, hw8⟩
                       have X8 := Aside.mk (XT.it.quiet (show Keeps Nowhere wt w8 by rw [hw8]; exact (Keeps.refl _ _).drewN nd))
                       clear hw8
                       have LE := Aside.mk (len_o X8.it.a)
                       have WE := Aside.mk (lweight_o X8.it.a))
                    | (go_at_call 16; refine LE.it.mono ?_; clear LE; rintro e w10 ⟨rfl, hw⟩; have hw := hw.symm; subst hw)
                    | (go_at_call 17; refine WE.it.mono ?_; clear WE; rintro e w10 ⟨rfl, hw⟩; have hw := hw.symm; subst hw)
                    | fail)
                  go_roundw
                  case rel => exact ⟨m + 1, _, _, _, _, by go_num, by omega, by omega, by omega, X8⟩
                  case measure => simp [natI]; omega
      · rcases Nat.lt_or_ge m n1 with hm5 | hm5
        · obtain rfl : m = 600 := by omega
          have j4 : ((600 : Nat) : Int) < (n1 : Int) := by omega
          go_wp2_with fail
          go_ret
          exact ⟨rfl, X.it.og.g.bel⟩
        · obtain rfl : m = n1 := by omega
          go_wp2_with fail
          go_ret
          exact ⟨rfl, X.it.og.g.bel⟩
end Go.Proofs.YthjeeianlgkaaaaDoor
