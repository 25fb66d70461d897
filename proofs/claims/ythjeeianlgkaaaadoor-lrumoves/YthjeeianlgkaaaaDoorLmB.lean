/-
  culvertlaw28: put
-/
import Derived.Test.YthjeeianlgkaaaaDoorLmA
import Derived.Test.YthjeeianlgkaaaaDoorLuN
import Derived.Test.YthjeeianlgkaaaaDoorLuS
import Derived.BigRegion
namespace Go.Proofs.YthjeeianlgkaaaaDoor
open Go.RowKit Lulnn

variable {w w' w0 W : World} {own own' : Nat → Nat} {i c o j g n m mb q : Nat} {room k : Int} {L M : List Rx} {I : Nat → Prop} {A : Nat → Addr} {x y : Rx} {z : Oz} {v va vb : Value} {F : Int → Int} {a : Option Addr}

theorem Rd3.tail {o' c' : Nat} (h : Rd3 w (.slice (some ⟨g, o, none⟩) n c) L) (hn : m + 1 = n) (ho : o' = o + 3) (hc : c' + 1 = c) : Rd3 w (.slice (some ⟨g, o', none⟩) m c') (L.drop 1) := by
  obtain ⟨a, c1, e, h1, h2, h3⟩ := h
  injection e with e1 e2 e3
  subst e1 e2 e3
  have hl : (L.drop 1).length = m := by rw [List.length_drop]; omega
  refine ⟨_, _, by rw [hl], by omega, by omega, fun j x hj => ?_⟩
  rw [List.getElem?_drop] at hj
  obtain ⟨g2, o2, e, x0, x1, x2⟩ := h3 (1 + j) x hj
  injection e with e
  injection e with e4 e5 _
  subst e4 e5
  have e : o' + j * 3 = o + (1 + j) * 3 := by omega
  exact ⟨_, _, rfl, by rw [e]; exact x0, by rw [e]; exact x1, by rw [e]; exact x2⟩
theorem Rd3.none0 (w : World) (a : Option Addr) (hc : c ≤ maxLen) : Rd3 w (.slice a 0 c) [] := ⟨_, _, rfl, Nat.zero_le _, hc, fun j x h => by simp at h⟩
theorem Rd3.take {c' : Nat} (h : Rd3 w (.slice a n c) L) (hm : m ≤ L.length) (h1 : m ≤ c') (h2 : c' ≤ maxLen) : Rd3 w (.slice a m c') (L.take m) := by
  obtain ⟨a', c1, e, _, _, h3⟩ := h
  injection e with e1 e2 e3
  subst e1
  refine ⟨_, _, by rw [List.length_take, Nat.min_eq_left hm], by rw [List.length_take]; omega, h2, fun j x hj => ?_⟩
  rw [List.getElem?_take] at hj
  split at hj
  · exact h3 j x hj
  · cases hj
theorem Rd3.at0 (h : Rd3 w (.slice a n c) L) (hj : L[j]? = some x) : ∃ g o, a = some ⟨g, o, none⟩ ∧ w.cell? ⟨g, o + j * 3, none⟩ = some (.int .i64 x.k) ∧ w.cell? ⟨g, o + j * 3 + 1, none⟩ = some (.int .i64 x.t) ∧ w.cell? ⟨g, o + j * 3 + 2, none⟩ = some (.int .i64 x.u) := by
  obtain ⟨a', c1, e, _, _, h3⟩ := h
  injection e with e1 e2 e3
  subst e1
  exact h3 j x hj
theorem OwR.rd3 {o : Nat} (h : OwR own o w 41 3 v n (r3 L)) (hn : n = L.length) : Rd3 w v L := owns_rd3 h.1 hn
theorem put_yes (h : CaO own i w c room L) (hz : z.Ok) (hm : mayP room z.w = true) (hmax : L.length * 8 ≤ 140737488355328) (o : Nat) :
    Calls Tryd.prog 21 #[ptr c, .int .i64 z.k, .int .i64 z.v, .int .i64 z.w, .int .i64 z.u] w fun e w' => ∃ qa qc own', e = .returned (.tuple #[.slice qa (goneX room L z.rx).length qc, .nilIface]) ∧ Aside (CaO own' i w' c room (putL room L z.rx)) ∧ Aside (OwR own' o w' 3 1 (.slice qa (goneX room L z.rx).length qc) (goneX room L z.rx).length (rk (goneX room L z.rx))) ∧ Aside (Sn (fun k => k = i) own w own' w') := by
  obtain ⟨h0, hr⟩ := may_true hm
  refine (put_o (x := z.rx) h (hz.rx h0) hr hmax o).mono ?_
  rintro e w' ⟨v, own', rfl, J, S⟩
  obtain ⟨qa, qn, qc, rfl⟩ := owns_shapeK J.it.2.1
  have hq : qn = (goneX room L z.rx).length := by
    rcases J.it.2.1.2 with ⟨e, h0⟩ | ⟨g, cap, cur, e, _⟩
    · injection e with _ e2 _; omega
    · injection e
  subst hq
  exact ⟨qa, qc, own', rfl, ⟨J.it.1⟩, ⟨J.it.2⟩, S⟩
/-- what stands behind the law's own put -/
structure PutE (own : Nat → Nat) (w : World) (c : Nat) (room : Int) (L : List Rx) (z : Oz) (mb n : Nat) (own' : Nat → Nat) (w' : World) (F' : Int → Int) (n' : Nat) : Prop where
  c : CaO own' 1 w' c room (putB room L z)
  m : MapN w' mb n' F'
  hn : n' ≤ n + 1
  f : Wts F' (putB room L z)
  s : Sn (fun k => k = 1 ∨ k = 6) own w own' w'
set_option maxHeartbeats 4000000 in
set_option maxRecDepth 20000 in
theorem lput_yes (h : CaO own 1 w c room L) (hW : OwR own 5 w 41 3 va L.length (r3 L)) (hM : MapN w mb n F) (ho : own mb = 6) (hn : n < maxLen) (hF : Wts F L) (hz : z.Ok) (hm : mayP room z.w = true) (hmax : (L.length + 1) * 32 ≤ 140737488355328) :
    Calls Tryd.prog 10 #[ptr c, va, .map (some mb), .int .i64 room, z.agg] w fun e w' => e = .returned (.bool true) ∧ ∃ own' F' n', Aside (PutE own w c room L z mb n own' w' F' n') := by
  have HLK := Aside.mk h.lok
  have EB : putB room L z = putL room L z.rx := by unfold putB; rw [if_pos hm]
  obtain ⟨D, P, G, f, hD, hP, hG, PN⟩ := putN_of h.lok hz hm hF
  have HE := Aside.mk (And.intro EB (And.intro hD (And.intro hP hG)))
  have HPN := Aside.mk PN
  have HPL := Aside.mk (putL_len room L z.rx)
  have HDL := Aside.mk (dropL_len (L := L) (k := z.k))
  clear EB PN
  obtain ⟨W1, hW1⟩ : ∃ W1, w.alloc (.cells #[.int .i64 z.kd, .int .i64 z.k, .int .i64 z.v, .int .i64 z.w, .int .i64 z.u] 32) = W1 := ⟨_, rfl⟩
  obtain ⟨b, hb⟩ : ∃ b, w.heap.size = b := ⟨_, rfl⟩
  have K1 : Aside (Keeps Nowhere w W1) := ⟨by rw [← hW1]; exact (Keeps.refl _ _).alloc _⟩
  have S1 : Aside (Sn (fun k => k = 1 ∨ k = 6) own w (give own b 8) W1) := ⟨by rw [← hb]; exact Sn.quiet K1.it 8⟩
  have C1 : Aside (CellsO (give own b 8) 8 W1 b 32 z.cells) := ⟨by rw [← hW1, ← hb]; exact Cells.new w _ _, by rw [← hb]; exact give_new (Nat.le_refl _)⟩
  have h1 : CaO (give own b 8) 1 W1 c room L := by rw [← hb]; exact h.sn (I := fun _ => False) (Sn.quiet K1.it 8) (fun x => x)
  have R1 : Aside (OwR (give own b 8) 5 W1 41 3 va L.length (r3 L)) := ⟨by rw [← hb]; exact hW.sn (I := fun _ => False) (Sn.quiet K1.it 8) (fun x => x)⟩
  have M1 := Aside.mk (hM.later K1.it (fun x => x))
  have O1 : Aside (give own b 8 mb = 6) := ⟨by rw [← hb]; exact (give_old hM.lt).trans ho⟩
  obtain ⟨va1, va2, va3, rfl⟩ := owns_shapeK hW.1
  have hva : va2 = L.length := by
    rcases hW.1.2 with ⟨e, h0⟩ | ⟨g, cap, cur, e, _⟩
    · injection e with _ e2 _; omega
    · injection e
  subst hva
  generalize give own b 8 = own1 at S1 C1 h1 R1 O1
  have PT := Aside.mk (put_yes h1 hz hm (by omega) 9)
  rw [hP, hG] at PT
  rw [hP] at HPL
  rw [hD] at HDL
  clear hD hP hG
  have HZ := Aside.mk hz
  have HF := Aside.mk hF
  have HM := Aside.mk hmax
  have HN := Aside.mk hn
  have g0 : W1.cell? ⟨b, 0, none⟩ = some (.int .i64 z.kd) := C1.it.1.cell 0
  have g1 : W1.cell? ⟨b, 1, none⟩ = some (.int .i64 z.k) := C1.it.1.cell 1
  have g2 : W1.cell? ⟨b, 2, none⟩ = some (.int .i64 z.v) := C1.it.1.cell 2
  have g3 : W1.cell? ⟨b, 3, none⟩ = some (.int .i64 z.w) := C1.it.1.cell 3
  have g4 : W1.cell? ⟨b, 4, none⟩ = some (.int .i64 z.u) := C1.it.1.cell 4
  clear h hW hM ho hF hz h1
  go_enter Tryd.func10, Tryd.ntmps10
  go_upto_region 1 with fail
  clear hW1 hb
  go_upto_region 2 with (first | (go_at_call 21; refine PT.it.mono ?_; clear PT; rintro e w2 ⟨ga, gc, own2, rfl, CA2, G2, S2⟩) | fail)
  have C2 := Aside.mk (C1.it.sn S2.it (by decide))
  have R2 := Aside.mk (R1.it.sn S2.it (by decide))
  have M2 := Aside.mk (M1.it.later S2.it.keeps (by rw [O1.it]; decide))
  have O2 : Aside (own2 mb = 6) := ⟨(S2.it.agree mb M1.it.lt).trans O1.it⟩
  have T2 := Aside.mk (S1.it.trans (S2.it.mono (fun k e => .inl e)))
  clear g0 g1 g2 g3 g4 C1 R1 M1 O1 S1 S2 K1
  have RW := Aside.mk (rows_ CA2.it (by have := HPL.it; have := HM.it; omega) 10)
  go_upto_region 3 with (first | (go_at_call 8; refine RW.it.mono ?_; clear RW; rintro e w3 ⟨na, nc, rfl, N3, K3⟩) | fail)
  have q3 := Sn.quiet (I := fun _ => False) (own := own2) K3.it 10
  have CA3 := Aside.mk (CA2.it.sn q3 (fun x => x))
  have G3 := Aside.mk (G2.it.sn q3 (fun x => x))
  have C3 := Aside.mk (C2.it.sn q3 (fun x => x))
  have R3 := Aside.mk (R2.it.sn q3 (fun x => x))
  have M3 := Aside.mk (M2.it.later K3.it (fun x => x))
  have O3 : Aside (give own2 w2.heap.size 10 mb = 6) := ⟨(give_old M2.it.lt).trans O2.it⟩
  have T3 := Aside.mk (T2.it.trans (Sn.quiet (I := fun k => k = 1 ∨ k = 6) K3.it 10))
  generalize give own2 w2.heap.size 10 = own3 at N3 CA3 G3 C3 R3 O3 T3
  clear q3 CA2 G2 C2 R2 M2 O2 T2 K3
  have g1 : w3.cell? ⟨b, 1, none⟩ = some (.int .i64 z.k) := C3.it.1.cell 1
  have WO := Aside.mk (without_ (own := own3) (R3.it.rd3 rfl) z.k (by have := HM.it; omega) 11)
  go_upto_region 9 with (first | (go_at_call 12; refine WO.it.mono ?_; clear WO; rintro e w4 ⟨ra, rc, rfl, D4, K4⟩) | fail)
  have q4 := Sn.quiet (I := fun _ => False) (own := own3) K4.it 11
  rw [show woL L z.k = D from (filter_drop HLK.it.one z.k).trans HE.it.2.1] at D4 ⊢
  have CA4 := Aside.mk (CA3.it.sn q4 (fun x => x))
  have G4 := Aside.mk (G3.it.sn q4 (fun x => x))
  have C4 := Aside.mk (C3.it.sn q4 (fun x => x))
  have N4 := Aside.mk (N3.it.sn q4 (fun x => x))
  have M4 := Aside.mk (M3.it.later K4.it (fun x => x))
  have O4 : Aside (give own3 w3.heap.size 11 mb = 6) := ⟨(give_old M3.it.lt).trans O3.it⟩
  have T4 := Aside.mk (T3.it.trans (Sn.quiet (I := fun k => k = 1 ∨ k = 6) K4.it 11))
  generalize give own3 w3.heap.size 11 = own4 at D4 CA4 G4 C4 N4 O4 T4
  clear q4 CA3 G3 C3 R3 N3 M3 O3 T3 K4 g1
  have r4 := D4.it.rd3 rfl
  have n4 := N4.it.rd3 rfl
  have DL := Aside.mk HPN.it.dl
  have PL : Aside (P.length = f + 1) := ⟨by have := HPN.it.dl; rw [HPN.it.p, List.length_cons, List.length_take]; omega⟩
  obtain ⟨dl, hdl⟩ : ∃ dl, D.length = dl := ⟨_, rfl⟩
  obtain ⟨gl, hgl⟩ : ∃ gl, G.length = gl := ⟨_, rfl⟩
  have HGL := Aside.mk hgl
  have HDL' := Aside.mk hdl
  rw [hdl] at D4 DL r4 ⊢
  rw [hgl] at G4 DL ⊢
  rw [PL.it] at N4 n4 ⊢
  have hdl' := DL.it
  clear hdl hgl
  have mx : maxLen ≤ 9223372036854775807 := by decide
  obtain ⟨hr1, _, rc', rr, hr2, hr3, _⟩ := owns_readsK D4.it.1
  injection rr with rr1 rr2 rr3
  subst rr1 rr3
  obtain ⟨hn1, _, nc', nn, hn2, hn3, _⟩ := owns_readsK N4.it.1
  injection nn with nn1 nn2 nn3
  subst nn1 nn3
  have hLb := HDL.it
  rw [HDL'.it] at hLb
  have hMb := HM.it
  have wr1 : IntKind.i64.wrap ((dl : Int) - (gl : Int)) = (f : Int) := by rw [IntWalk.i64_in _ (by omega)]; omega
  have wr2 : IntKind.i64.wrap ((f : Int) + 1) = ((f + 1 : Nat) : Int) := by rw [IntWalk.i64_in _ (by omega)]; omega
  have HP0 : P[0]? = some z.rx := by rw [HPN.it.p]; rfl
  obtain ⟨ng, no, rfl, p0, p1, p2⟩ := n4.at0 HP0
  rw [Nat.zero_mul, Nat.add_zero] at p0 p1 p2
  change w4.cell? ⟨ng, no, none⟩ = some (.int .i64 z.k) at p0
  change w4.cell? ⟨ng, no + 1, none⟩ = some (.int .i64 z.v) at p1
  change w4.cell? ⟨ng, no + 2, none⟩ = some (.int .i64 z.u) at p2
  have tl4 : Rd3 w4 (.slice (if nc = 1 then some ⟨ng, no, none⟩ else some ⟨ng, no + 3, none⟩) f (nc - 1)) (D.take f) := by
    by_cases e : nc = 1
    · rw [if_pos e]
      have : f = 0 := by omega
      subst this
      exact Rd3.none0 _ _ (by omega)
    · rw [if_neg e]
      have h1 := n4.tail (m := f) (o' := no + 3) (c' := nc - 1) rfl rfl (by omega)
      rw [HPN.it.p] at h1
      exact h1
  have tk4 : Rd3 w4 (.slice ra f rc) (D.take f) := r4.take (by rw [HDL'.it]; omega) (by omega) hr3
  have wq : ∀ d : Nat, Rd3 (w4.drewN d) (.slice (if nc = 1 then some ⟨ng, no, none⟩ else some ⟨ng, no + 3, none⟩) f (nc - 1)) (D.take f) ∧ Rd3 (w4.drewN d) (.slice ra f rc) (D.take f) := fun d => ⟨tl4.quiet ((Keeps.refl _ _).drewN d), tk4.quiet ((Keeps.refl _ _).drewN d)⟩
  have AL : Aside (∀ d : Nat, Calls Tryd.prog 15 #[.slice (if nc = 1 then some ⟨ng, no, none⟩ else some ⟨ng, no + 3, none⟩) f (nc - 1), .slice ra f rc] (w4.drewN d) fun e w' => e = .returned (.bool true) ∧ ∃ m, w' = (w4.drewN d).drewN m) := ⟨fun d => by
    have := alikeD (wq d).1 (wq d).2
    rw [decide_eq_true rfl] at this
    exact this⟩
  clear tl4 tk4 wq
  go_upto_region 10 with fail
  have g1 : w4.cell? ⟨b, 1, none⟩ = some (.int .i64 z.k) := C4.it.1.cell 1
  have g2 : w4.cell? ⟨b, 2, none⟩ = some (.int .i64 z.v) := C4.it.1.cell 2
  have g3 : w4.cell? ⟨b, 3, none⟩ = some (.int .i64 z.w) := C4.it.1.cell 3
  have g4 : w4.cell? ⟨b, 4, none⟩ = some (.int .i64 z.u) := C4.it.1.cell 4
  have s1 : decide (z.w < 0) = false := decide_eq_false (by have := HPN.it.w0; omega)
  have s2 : decide (room < z.w) = false := decide_eq_false (by have := HPN.it.w0; omega)
  have s3 : decide ((f : Int) < 0) = false := decide_eq_false (by omega)
  have s4 : (((f + 1 : Nat) : Int) == ((f + 1 : Nat) : Int)) = true := by simp
  have s5 : (0 : Int) < ((f + 1 : Nat) : Int) := by omega
  go_quiet (first | (go_at_call 15; exact Calls.quiet_of (AL.it _)) | fail)
  clear AL s1 s2 s3 s4 s5 g1 g2 g3 g4 wr1 wr2 p0 p1 p2 HP0
  have K5 : Aside (Keeps Nowhere w4 (w4.drewN nq)) := ⟨(Keeps.refl _ _).drewN _⟩
  generalize w4.drewN nq = w5 at K5 ⊢
  generalize (if nc = 1 then some (⟨ng, no, none⟩ : Addr) else some ⟨ng, no + 3, none⟩) = ta
  go_upto_region 13 with fail
  go_loopw [18] (fun iv wr => ∃ j : Nat, iv = .int .i64 j ∧ j ≤ gl ∧ Aside (Keeps Nowhere w4 wr)) (fun iv _ => gl - natI iv)
  case atStart => exact ⟨0, rfl, Nat.zero_le _, K5⟩
  case round =>
    obtain ⟨j, rfl, hj, KJ⟩ := hrel
    rcases Nat.eq_or_lt_of_le hj with hjg | hlt
    · have hjg := hjg.symm
      subst hjg
      have M5 := Aside.mk (M4.it.later KJ.it (fun x => x))
      have C5 := Aside.mk (C4.it.sn (I := fun _ => False) (Sn.same KJ.it) (fun x => x))
      have CA5 := Aside.mk (CA4.it.quiet KJ.it)
      have T5 := Aside.mk (T4.it.trans (Sn.same (I := fun k => k = 1 ∨ k = 6) KJ.it))
      have g1 : wr.cell? ⟨b, 1, none⟩ = some (.int .i64 z.k) := C5.it.1.cell 1
      have g3 : wr.cell? ⟨b, 3, none⟩ = some (.int .i64 z.w) := C5.it.1.cell 3
      obtain ⟨w6, hst, MN, KN⟩ := M5.it.store HN.it HZ.it.k z.w
      have M6 := Aside.mk MN
      have K6 := Aside.mk KN
      clear MN KN
      go_upto_region 20 with fail
      have S6 : Sn (fun k => k = 6) own4 w4 own4 w6 := (Sn.same KJ.it).trans ⟨fun _ _ => rfl, K6.it.mono (fun x e _ => by rw [e]; exact O4.it)⟩
      have N6 := Aside.mk (N4.it.sn S6 (by decide))
      have G6 := Aside.mk (G4.it.sn S6 (by decide))
      have CA6 := Aside.mk (CA4.it.sn S6 (by decide))
      have C6 := Aside.mk (C4.it.sn S6 (by decide))
      have T6 := Aside.mk (T4.it.trans (S6.mono (fun k e => .inr e)))
      obtain ⟨F', hF'⟩ : ∃ F', (fun k' => if k' = z.k then z.w else F k') = F' := ⟨_, rfl⟩
      rw [hF'] at HPN M6
      clear hF' S6 M5 C5 CA5 T5 g1 g3 hst K6 n4 r4
      go_loopw [19, 20] (fun sv iv wr => ∃ j : Nat, sv = .int .i64 (sumL (P.take j)) ∧ iv = .int .i64 j ∧ j ≤ f + 1 ∧ wr = w6) (fun _ iv _ => f + 1 - natI iv)
      case atStart => exact ⟨0, rfl, rfl, Nat.zero_le _, rfl⟩
      case round =>
        obtain ⟨j, rfl, rfl, hj, rfl⟩ := hrel
        rcases Nat.eq_or_lt_of_le hj with rfl | hlt
        · have eP : sumL (P.take (f + 1)) = sumL P := by rw [← PL.it, List.take_length]
          rw [eP]
          have WE := Aside.mk (lweight_o CA6.it)
          have q1 : (sumL P == sumL P) = true := by simp
          have hs1 := HPN.it.sums (f + 1)
          rw [eP] at hs1
          have q2 : decide (room < sumL P) = false := decide_eq_false (by omega)
          go_upto_region 25 with (first | (go_at_call 17; refine WE.it.mono ?_; clear WE; rintro e w7 ⟨rfl, hw7⟩; have hw7 := hw7.symm; subst hw7) | fail)
          obtain ⟨_, _, gc', e, _, hg3, _, hg4⟩ := owns_readsK G6.it.1
          injection e with e1 e2 e3
          subst e1 e3
          have HC := Aside.mk hg4
          clear hg4 q1 q2
          have lz := fun d : Nat => (M6.it.later (S := Nowhere) ((Keeps.refl _ _).drewN d) (fun x => x)).look HZ.it.k
          rw [HPN.it.zw] at lz
          have g1 : wr.cell? ⟨b, 1, none⟩ = some (.int .i64 z.k) := C6.it.1.cell 1
          have g3 : wr.cell? ⟨b, 3, none⟩ = some (.int .i64 z.w) := C6.it.1.cell 3
          have hw0 := HPN.it.w0
          have OUT : ∀ d : Nat, PutE own w c room L z mb n own4 (wr.drewN d) F' (n + 1) := fun d => by
            have kd : Keeps Nowhere wr (wr.drewN d) := (Keeps.refl _ _).drewN d
            refine ⟨?_, M6.it.later kd (fun x => x), Nat.le_refl _, ?_, T6.it.trans (Sn.same kd)⟩
            · rw [HE.it.1, HE.it.2.2.1]; exact CA6.it.quiet kd
            · rw [HE.it.1, HE.it.2.2.1]; exact HPN.it.wts
          have HOUT := Aside.mk OUT
          clear OUT
          rcases Nat.eq_zero_or_pos gl with h0 | h0
          · have q3 : ((gl : Int) == 0) = true := by simp [h0]
            go_quiet (fail)
            go_wp2_with fail
            go_ret
            exact ⟨rfl, _, _, _, ⟨HOUT.it _⟩⟩
          · have q3 : ((gl : Int) == 0) = false := by simp; omega
            obtain ⟨y, y1, y2, yk, y3, y4⟩ := HPN.it.last (by rw [HGL.it]; exact h0)
            rw [HGL.it] at y1
            obtain ⟨e, he⟩ : ∃ e, gl = e + 1 := ⟨gl - 1, by omega⟩
            have wr6 : IntKind.i64.wrap ((gl : Int) - 1) = (e : Int) := by rw [IntWalk.i64_in _ (by omega)]; omega
            have be : (e : Int) < (gl : Int) := by omega
            rw [show gl - 1 = e by omega] at y1
            obtain ⟨gg, go, rfl, v0⟩ := HC.it e _ (rk_at y1)
            have ly := fun d : Nat => (M6.it.later (S := Nowhere) ((Keeps.refl _ _).drewN d) (fun x => x)).look (k := y.k) yk
            rw [y2] at ly
            have wr7 : IntKind.i64.wrap (sumL P - z.w) = sumL P - z.w := IntWalk.i64_in _ (by omega)
            have wr8 : IntKind.i64.wrap (room - z.w) = room - z.w := IntWalk.i64_in _ (by omega)
            have wr9 : IntKind.i64.wrap (room - z.w - y.w) = room - z.w - y.w := IntWalk.i64_in _ (by omega)
            have q4 : decide (room - z.w - y.w < sumL P - z.w) = true := decide_eq_true y4
            clear y1 he
            go_quiet (fail)
            go_wp2_with fail
            go_ret
            exact ⟨rfl, _, _, _, ⟨HOUT.it _⟩⟩
        · have hlt' : (j : Int) < ((f + 1 : Nat) : Int) := by omega
          obtain ⟨x, hx⟩ : ∃ x, P[j]? = some x := ⟨_, List.getElem?_eq_getElem (by rw [PL.it]; exact hlt)⟩
          obtain ⟨g', o', e, x0, _, _⟩ := (N6.it.rd3 PL.it.symm).at0 hx
          injection e with e
          injection e with e1 e2 _
          subst e1 e2
          have lk := M6.it.look ((CA6.it.lok.ok x (List.mem_of_getElem? hx)).k)
          rw [HPN.it.wts x (List.mem_of_getElem? hx)] at lk
          have hs1 := HPN.it.sums j
          have hs2 := HPN.it.sums (j + 1)
          rw [sumL_next hx] at hs2
          have hr0 := HPN.it.w0
          have wr5 : IntKind.i64.wrap (sumL (P.take j) + x.w) = sumL (P.take (j + 1)) := by rw [sumL_next hx, IntWalk.i64_in _ (by omega)]
          clear hx
          go_wp2_with fail
          go_roundw
          case rel => exact ⟨j + 1, rfl, by go_num, hlt, by trivial⟩
          case measure => simp [natI]; omega
    · have hlt' : (j : Int) < (gl : Int) := by omega
      obtain ⟨y, y1, y2⟩ := HPN.it.g j (by rw [HGL.it]; exact hlt)
      rw [HGL.it] at y2
      obtain ⟨p, hp⟩ : ∃ p, f + gl - 1 - j = p := ⟨_, rfl⟩
      obtain ⟨t, ht⟩ : ∃ t, t = p + j := ⟨_, rfl⟩
      rw [hp] at y2
      have wr3 : IntKind.i64.wrap ((dl : Int) - 1) = (t : Int) := by rw [IntWalk.i64_in _ (by omega)]; omega
      have wr4 : IntKind.i64.wrap ((t : Int) - (j : Int)) = (p : Int) := by rw [IntWalk.i64_in _ (by omega)]; omega
      have bp : (p : Int) < (dl : Int) := by omega
      obtain ⟨rg, ro, rfl, x0, _, _⟩ := r4.at0 y2
      obtain ⟨_, _, gc', e, _, hg3, _, hg4⟩ := owns_readsK G4.it.1
      injection e with e1 e2 e3
      subst e1 e3
      obtain ⟨gg, go, rfl, v0⟩ := hg4 j _ (rk_at y1)
      have x0 : wr.cell? ⟨rg, ro + p * 3, none⟩ = some (.int .i64 y.k) := by rw [World.cell?_of_block (w := w4) (KJ.it.block rg (World.block_lt_of_cell? w4 _ x0) (fun x => x))]; exact x0
      have v0 : wr.cell? ⟨gg, go + j, none⟩ = some (.int .i64 y.k) := by rw [World.cell?_of_block (w := w4) (KJ.it.block gg (World.block_lt_of_cell? w4 _ v0) (fun x => x))]; exact v0
      have q9 : (y.k == y.k) = true := by simp
      clear hg4 r4 n4 y1 y2
      go_wp2_with fail
      go_quiet (fail)
      go_wp2_with fail
      go_roundw
      case rel => exact ⟨j + 1, by go_num, hlt, ⟨KJ.it.drewN _⟩⟩
      case measure => simp [natI]; omega
set_option maxHeartbeats 4000000 in
set_option maxRecDepth 20000 in
theorem lput_no (hs : Sents 144 codeVars A w) (h : CaO own 1 w c room L) (hW : OwR own 5 w 41 3 va L.length (r3 L)) (hM : MapN w mb n F) (hF : Wts F L) (hm : mayP room z.w = false) (hmax : (L.length + 1) * 32 ≤ 140737488355328) :
    Calls Tryd.prog 10 #[ptr c, va, .map (some mb), .int .i64 room, z.agg] w fun e w' => e = .returned (.bool true) ∧ ∃ own' F' n', Aside (PutE own w c room L z mb n own' w' F' n') := by
  have EB : putB room L z = L := by unfold putB; rw [if_neg (by rw [hm]; simp)]
  obtain ⟨W1, hW1⟩ : ∃ W1, w.alloc (.cells #[.int .i64 z.kd, .int .i64 z.k, .int .i64 z.v, .int .i64 z.w, .int .i64 z.u] 32) = W1 := ⟨_, rfl⟩
  obtain ⟨b, hb⟩ : ∃ b, w.heap.size = b := ⟨_, rfl⟩
  have K1 : Aside (Keeps Nowhere w W1) := ⟨by rw [← hW1]; exact (Keeps.refl _ _).alloc _⟩
  have C1 : Aside (CellsO (give own b 8) 8 W1 b 32 z.cells) := ⟨by rw [← hW1, ← hb]; exact Cells.new w _ _, by rw [← hb]; exact give_new (Nat.le_refl _)⟩
  have h1 : CaO own 1 W1 c room L := h.quiet K1.it
  have hs1 := hs.later K1.it.bel
  have R1 : Aside (Rd3 W1 va L) := ⟨(hW.rd3 rfl).quiet K1.it⟩
  have RW := Aside.mk (rows_ h1 (by omega) 10)
  have END : Aside (∀ w', Keeps Nowhere W1 w' → PutE own w c room L z mb n own w' F n) := ⟨fun w' k => by
    refine ⟨?_, (hM.later K1.it (fun x => x)).later k (fun x => x), Nat.le_succ _, ?_, (Sn.same K1.it).trans (Sn.same k)⟩
    · rw [EB]; exact h1.quiet k
    · rw [EB]; exact hF⟩
  have CDN : Aside (z.w < 0 → ∀ w', Keeps Nowhere W1 w' → Calls Tryd.prog 7 #[.iface 144 (.pointer (some (A 1)))] w' fun e w'' => e = .returned (.int .i64 2) ∧ w'' = w') := ⟨fun _ w' k => code_of (hs1.later k.bel) (Coded.mk 1 2 (by decide) (by decide) rfl)⟩
  have CDF : Aside (room < z.w → ∀ w', Keeps Nowhere W1 w' → Calls Tryd.prog 7 #[.iface 144 (.pointer (some (A 5)))] w' fun e w'' => e = .returned (.int .i64 6) ∧ w'' = w') := ⟨fun _ w' k => code_of (hs1.later k.bel) (Coded.mk 5 6 (by decide) (by decide) rfl)⟩
  obtain ⟨va1, va2, va3, rfl⟩ := owns_shapeK hW.1
  have g0 : W1.cell? ⟨b, 0, none⟩ = some (.int .i64 z.kd) := C1.it.1.cell 0
  have g1 : W1.cell? ⟨b, 1, none⟩ = some (.int .i64 z.k) := C1.it.1.cell 1
  have g2 : W1.cell? ⟨b, 2, none⟩ = some (.int .i64 z.v) := C1.it.1.cell 2
  have g3 : W1.cell? ⟨b, 3, none⟩ = some (.int .i64 z.w) := C1.it.1.cell 3
  have g4 : W1.cell? ⟨b, 4, none⟩ = some (.int .i64 z.u) := C1.it.1.cell 4
  have e0 : ((0 : Int) == 0) = true := by simp
  rcases may_false hm with h0 | ⟨h0, hr⟩
  · have PT := Aside.mk (put_neg hs1 c z.k (.int .i64 z.v) z.u h0)
    have CD := Aside.mk (CDN.it h0)
    have q1 : decide (z.w < 0) = true := decide_eq_true h0
    clear hs h hW hM hF h1 hs1 CDN CDF
    go_enter Tryd.func10, Tryd.ntmps10
    go_upto_region 1 with fail
    clear hW1 hb
    go_upto_region 2 with (first | (go_at_call 21; refine PT.it.mono ?_; clear PT; rintro e w2 ⟨rfl, hw2⟩; have hw2 := hw2.symm; subst hw2) | fail)
    go_upto_region 3 with (first | (go_at_call 8; refine RW.it.mono ?_; clear RW; rintro e w3 ⟨na, nc, rfl, N3, K3⟩) | fail)
    have CD3 := Aside.mk (CD.it w3 K3.it)
    have AL := Aside.mk (alikeD (N3.it.rd3 rfl) (R1.it.quiet K3.it))
    rw [decide_eq_true rfl] at AL
    clear g0 g1 g2 g3 g4
    have g3 : w3.cell? ⟨b, 3, none⟩ = some (.int .i64 z.w) := (C1.it.1.later K3.it (fun x => x)).cell 3
    go_wp2_with (first
      | (go_at_call 7; refine CD3.it.mono ?_; clear CD3; rintro e w4 ⟨rfl, hw4⟩; have hw4 := hw4.symm; subst hw4)
      | (go_at_call 15; refine AL.it.mono ?_; clear AL; rintro e w5 ⟨rfl, nd, rfl⟩)
      | fail)
    go_ret
    exact ⟨rfl, _, _, _, ⟨END.it _ (K3.it.drewN _)⟩⟩
  · have PT := Aside.mk (put_full hs1 h1 z.k (.int .i64 z.v) z.u h0 hr)
    have CD := Aside.mk (CDF.it hr)
    have q1 : decide (z.w < 0) = false := decide_eq_false (by omega)
    have q2 : decide (room < z.w) = true := decide_eq_true hr
    clear hs h hW hM hF h1 hs1 CDN CDF
    go_enter Tryd.func10, Tryd.ntmps10
    go_upto_region 1 with fail
    clear hW1 hb
    go_upto_region 2 with (first | (go_at_call 21; refine PT.it.mono ?_; clear PT; rintro e w2 ⟨rfl, hw2⟩; have hw2 := hw2.symm; subst hw2) | fail)
    go_upto_region 3 with (first | (go_at_call 8; refine RW.it.mono ?_; clear RW; rintro e w3 ⟨na, nc, rfl, N3, K3⟩) | fail)
    have CD3 := Aside.mk (CD.it w3 K3.it)
    have AL := Aside.mk (alikeD (N3.it.rd3 rfl) (R1.it.quiet K3.it))
    rw [decide_eq_true rfl] at AL
    clear g0 g1 g2 g3 g4
    have g3 : w3.cell? ⟨b, 3, none⟩ = some (.int .i64 z.w) := (C1.it.1.later K3.it (fun x => x)).cell 3
    go_wp2_with (first
      | (go_at_call 7; refine CD3.it.mono ?_; clear CD3; rintro e w4 ⟨rfl, hw4⟩; have hw4 := hw4.symm; subst hw4)
      | (go_at_call 15; refine AL.it.mono ?_; clear AL; rintro e w5 ⟨rfl, nd, rfl⟩)
      | fail)
    go_ret
    exact ⟨rfl, _, _, _, ⟨END.it _ (K3.it.drewN _)⟩⟩
theorem lput_ (hs : Sents 144 codeVars A w) (h : CaO own 1 w c room L) (hW : OwR own 5 w 41 3 va L.length (r3 L)) (hM : MapN w mb n F) (ho : own mb = 6) (hn : n < maxLen) (hF : Wts F L) (hz : z.Ok) (hmax : (L.length + 1) * 32 ≤ 140737488355328) :
    Calls Tryd.prog 10 #[ptr c, va, .map (some mb), .int .i64 room, z.agg] w fun e w' => e = .returned (.bool true) ∧ ∃ own' F' n', Aside (PutE own w c room L z mb n own' w' F' n') := by
  cases hm : mayP room z.w with
  | true => exact lput_yes h hW hM ho hn hF hz hm hmax
  | false => exact lput_no hs h hW hM hF hm hmax
end Go.Proofs.YthjeeianlgkaaaaDoor
