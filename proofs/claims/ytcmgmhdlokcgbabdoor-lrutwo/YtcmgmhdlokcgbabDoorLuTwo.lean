/-
  LruTwo
-/
import Derived.Test.YtcmgmhdlokcgbabDoorLuL
import Derived.BigRegion
namespace Go.Proofs.YtcmgmhdlokcgbabDoor
open Go.RowKit Lulnn

variable {w w' w0 W : World} {own own' : Nat → Nat} {i c o j ca cb cc b q : Nat} {room : Int} {L M La Lb Lc : List Rx} {I : Nat → Prop} {A : Nat → Addr} {x y : Rx} {z : Oz} {v va vb : Value}

/-- three caches, by owners 1, 2, 3 -/
structure Tw (A : Nat → Addr) (w : World) (own : Nat → Nat) (W : World) (ca cb cc : Nat) (room : Int) (La Lb Lc : List Rx) : Prop where
  og : OnG A w own W
  a : CaO own 1 W ca room La
  b : CaO own 2 W cb room Lb
  c : CaO own 3 W cc room Lc
theorem Tw.quiet (h : Tw A w own W ca cb cc room La Lb Lc) (hk : Keeps Nowhere W w') : Tw A w own w' ca cb cc room La Lb Lc := ⟨h.og.quiet hk, h.a.quiet hk, h.b.quiet hk, h.c.quiet hk⟩
theorem tw1 (h : Aside (Tw A w own W ca cb cc room La Lb Lc)) (hz : z.Ok) (hm : La.length * 8 ≤ 140737488355328) : Calls Tryd.prog 7 #[ptr ca, z.agg] W fun e w' => e = .returned (.tuple #[]) ∧ ∃ own', Aside (Tw A w own' w' ca cb cc room (actL room La z) Lb Lc) := by
  refine (act_ h.it.a h.it.og.sents hz hm).mono ?_
  rintro e w' ⟨own', rfl, J, S⟩
  exact ⟨rfl, own', ⟨h.it.og.sn S.it (by decide), J.it, h.it.b.sn S.it (by decide), h.it.c.sn S.it (by decide)⟩⟩
theorem tw2 (h : Aside (Tw A w own W ca cb cc room La Lb Lc)) (hz : z.Ok) (hm : Lb.length * 8 ≤ 140737488355328) : Calls Tryd.prog 7 #[ptr cb, z.agg] W fun e w' => e = .returned (.tuple #[]) ∧ ∃ own', Aside (Tw A w own' w' ca cb cc room La (actL room Lb z) Lc) := by
  refine (act_ h.it.b h.it.og.sents hz hm).mono ?_
  rintro e w' ⟨own', rfl, J, S⟩
  exact ⟨rfl, own', ⟨h.it.og.sn S.it (by decide), h.it.a.sn S.it (by decide), J.it, h.it.c.sn S.it (by decide)⟩⟩
theorem tw3 (h : Aside (Tw A w own W ca cb cc room La Lb Lc)) (hz : z.Ok) (hm : Lc.length * 8 ≤ 140737488355328) : Calls Tryd.prog 7 #[ptr cc, z.agg] W fun e w' => e = .returned (.tuple #[]) ∧ ∃ own', Aside (Tw A w own' w' ca cb cc room La Lb (actL room Lc z)) := by
  refine (act_ h.it.c h.it.og.sents hz hm).mono ?_
  rintro e w' ⟨own', rfl, J, S⟩
  exact ⟨rfl, own', ⟨h.it.og.sn S.it (by decide), h.it.a.sn S.it (by decide), h.it.b.sn S.it (by decide), J.it⟩⟩
theorem i6_of {n : Int} (h : (Lit.int .i64 n).wf = true) : I6 n := lu_wf h
set_option maxHeartbeats 4000000 in
set_option maxRecDepth 20000 in
theorem lruTwo_walk {A : Nat → Addr} (room : Int) (v1 : Value) (ys : List Oz) (v2 : Value) (zs : List Oz) (w : World) (hs : Sents 81 codeVars A w) (hwf : (Lit.int .i64 room).wf = true) (h1 : Ops28Arg w v1 ys) (h2 : Ops28Arg w v2 zs) :
    Calls Tryd.prog 3 #[.int .i64 room, v1, v2] w fun e w' => e = .returned (.bool true) ∧ Below w.heap.size w w' := by
  have AW := Aside.mk (awake_ok hs)
  have hr := i6_of hwf
  have HS := Aside.mk hs
  clear hs hwf
  rcases Int.lt_or_le room 0 with hneg | hpos
  · go_enter Tryd.func3, Tryd.ntmps3
    go_upto_region 3 with (first | (go_at_call 5; refine AW.it.mono ?_; clear AW; rintro e w1 ⟨rfl, K1⟩) | fail)
    have N1 := Aside.mk (new_neg (HS.it.later K1.it.bel) hneg)
    go_upto_region 4 with (first | (go_at_call 6; refine N1.it.mono ?_; clear N1; rintro e w2 ⟨rfl, K2⟩) | fail)
    have K12 := Aside.mk (K1.it.trans K2.it)
    have N2 := Aside.mk (new_neg (HS.it.later K12.it.bel) hneg)
    go_upto_region 5 with (first | (go_at_call 6; refine N2.it.mono ?_; clear N2; rintro e w3 ⟨rfl, K3⟩) | fail)
    have K13 := Aside.mk (K12.it.trans K3.it)
    have N3 := Aside.mk (new_neg (HS.it.later K13.it.bel) hneg)
    go_upto_region 6 with (first | (go_at_call 6; refine N3.it.mono ?_; clear N3; rintro e w4 ⟨rfl, K4⟩) | fail)
    go_wp2_with fail
    go_ret
    exact ⟨rfl, (K13.it.trans K4.it).bel⟩
  · obtain ⟨L1, B1⟩ := h1
    obtain ⟨L2, B2⟩ := h2
    have C1 := L1
    have C2 := L2
    obtain ⟨q1, c1, rfl, hc1, hx1, _⟩ := C1
    obtain ⟨q2, c2, rfl, hc2, hx2, _⟩ := C2
    have O1 := Aside.mk (fun i z (hi : ys[i]? = some z) => oz_at L1 hi)
    have O2 := Aside.mk (fun i z (hi : zs[i]? = some z) => oz_at L2 hi)
    clear L1 L2
    obtain ⟨n1, hn1⟩ : ∃ n, ys.length = n := ⟨_, rfl⟩
    obtain ⟨n2, hn2⟩ : ∃ n, zs.length = n := ⟨_, rfl⟩
    have E1 := Aside.mk hn1
    have E2 := Aside.mk hn2
    rw [hn1] at B1 hc1 ⊢
    rw [hn2] at B2 hc2 ⊢
    clear hn1 hn2
    have mx : maxLen ≤ 9223372036854775807 := by decide
    go_enter Tryd.func3, Tryd.ntmps3
    go_upto_region 3 with (first | (go_at_call 5; refine AW.it.mono ?_; clear AW; rintro e w1 ⟨rfl, K1⟩) | fail)
    have G1 := Aside.mk ((OnG.start HS.it).quiet K1.it)
    have N1 := Aside.mk (new_pos (fun _ => 0) 1 w1 hpos hr.2)
    go_upto_region 4 with (first | (go_at_call 6; refine N1.it.mono ?_; clear N1; rintro e w2 ⟨ca, rfl, A2, K2⟩) | fail)
    have G2 := Aside.mk (G1.it.sn (I := fun _ => False) (Sn.quiet K2.it 1) (fun x => x))
    have N2 := Aside.mk (new_pos (give (fun _ => 0) w1.heap.size 1) 2 w2 hpos hr.2)
    go_upto_region 5 with (first | (go_at_call 6; refine N2.it.mono ?_; clear N2; rintro e w3 ⟨cb, rfl, A3, K3⟩) | fail)
    have G3 := Aside.mk (G2.it.sn (I := fun _ => False) (Sn.quiet K3.it 2) (fun x => x))
    have A2' := Aside.mk (A2.it.sn (I := fun _ => False) (Sn.quiet K3.it 2) (fun x => x))
    have N3 := Aside.mk (new_pos (give (give (fun _ => 0) w1.heap.size 1) w2.heap.size 2) 3 w3 hpos hr.2)
    go_upto_region 6 with (first | (go_at_call 6; refine N3.it.mono ?_; clear N3; rintro e w4 ⟨cc, rfl, A4, K4⟩) | fail)
    have X4 : Aside (Tw A w (give (give (give (fun _ => 0) w1.heap.size 1) w2.heap.size 2) w3.heap.size 3) w4 ca cb cc room [] [] []) := ⟨G3.it.sn (I := fun _ => False) (Sn.quiet K4.it 3) (fun x => x), A2'.it.sn (I := fun _ => False) (Sn.quiet K4.it 3) (fun x => x), A3.it.sn (I := fun _ => False) (Sn.quiet K4.it 3) (fun x => x), A4.it⟩
    generalize give (give (give (fun _ => 0) w1.heap.size 1) w2.heap.size 2) w3.heap.size 3 = own0 at X4
    clear G1 G2 G3 A2 A2' A3 A4 K1 K2 K3 K4
    go_upto_region 9 with fail
    go_loopw [13] (fun iv wr => ∃ (m : Nat) (own : Nat → Nat) (La Lb : List Rx), iv = .int .i64 m ∧ (m ≤ n1 ∨ m ≤ n2) ∧ La.length ≤ m ∧ Lb.length ≤ m ∧ Aside (Tw A w own wr ca cb cc room La Lb La)) (fun iv _ => max n1 n2 - natI iv)
    case atStart => exact ⟨0, own0, [], [], rfl, .inl (Nat.zero_le _), Nat.le_refl _, Nat.le_refl _, X4⟩
    case round =>
      obtain ⟨m, own, La, Lb, rfl, hm, hla, hlb, X⟩ := hrel
      clear X4
      by_cases h1 : m < n1
      · have k1 : (m : Int) < (n1 : Int) := by omega
        obtain ⟨z, hz⟩ : ∃ z, ys[m]? = some z := ⟨_, List.getElem?_eq_getElem (by rw [E1.it]; exact h1)⟩
        obtain ⟨b, o, rfl, op0⟩ := O1.it m z hz
        obtain ⟨g0, g1, g2, g3, g4, zok⟩ := op0.later X.it.og.g.bel
        have T1 := Aside.mk (tw1 X zok (by omega))
        have OP := Aside.mk op0
        clear op0 hz
        go_upto_region 13 with (first | (go_at_call 7; refine T1.it.mono ?_; clear T1; rintro e w5 ⟨rfl, own5, X5⟩) | fail)
        clear g0 g1 g2 g3 g4
        obtain ⟨g0, g1, g2, g3, g4, _⟩ := OP.it.later X5.it.og.g.bel
        have T3 := Aside.mk (tw3 X5 zok (by omega))
        go_upto_region 14 with (first | (go_at_call 7; refine T3.it.mono ?_; clear T3; rintro e w6 ⟨rfl, own6, X6⟩) | fail)
        clear g0 g1 g2 g3 g4 X5 X
        by_cases h2 : m < n2
        · have k2 : (m : Int) < (n2 : Int) := by omega
          obtain ⟨y, hy⟩ : ∃ y, zs[m]? = some y := ⟨_, List.getElem?_eq_getElem (by rw [E2.it]; exact h2)⟩
          obtain ⟨b2, o2, rfl, p0⟩ := O2.it m y hy
          obtain ⟨r0, r1, r2, r3, r4, yok⟩ := p0.later X6.it.og.g.bel
          have T2 := Aside.mk (tw2 X6 yok (by omega))
          clear p0 hy
          go_wp2_with (first | (go_at_call 7; refine T2.it.mono ?_; clear T2; rintro e w7 ⟨rfl, own7, X7⟩) | fail)
          go_roundw
          case rel => exact ⟨m + 1, own7, actL room La z, actL room Lb y, by go_num, by omega, by first | omega | (have := actL_len room La z; omega), by have := actL_len room Lb y; omega, X7⟩
          case measure => simp [natI]; omega
        · have k2 : ¬ (m : Int) < (n2 : Int) := by omega
          go_wp2_with fail
          go_roundw
          case rel => exact ⟨m + 1, own6, actL room La z, Lb, by go_num, by omega, by have := actL_len room La z; omega, by omega, X6⟩
          case measure => simp [natI]; omega
      · have k1 : ¬ (m : Int) < (n1 : Int) := by omega
        by_cases h2 : m < n2
        · have k2 : (m : Int) < (n2 : Int) := by omega
          obtain ⟨y, hy⟩ : ∃ y, zs[m]? = some y := ⟨_, List.getElem?_eq_getElem (by rw [E2.it]; exact h2)⟩
          obtain ⟨b2, o2, rfl, p0⟩ := O2.it m y hy
          obtain ⟨r0, r1, r2, r3, r4, yok⟩ := p0.later X.it.og.g.bel
          have T2 := Aside.mk (tw2 X yok (by omega))
          clear p0 hy
          go_wp2_with (first | (go_at_call 7; refine T2.it.mono ?_; clear T2; rintro e w7 ⟨rfl, own7, X7⟩) | fail)
          go_roundw
          case rel => exact ⟨m + 1, own7, La, actL room Lb y, by go_num, by omega, by first | omega | (have := actL_len room La z; omega), by have := actL_len room Lb y; omega, X7⟩
          case measure => simp [natI]; omega
        · have k2 : ¬ (m : Int) < (n2 : Int) := by omega
          have R1 := Aside.mk (rows_ X.it.a (by omega) 5)
          have WA := Aside.mk (lweight_o X.it.a)
          go_upto_region 17 with (first | (go_at_call 8; refine R1.it.mono ?_; clear R1; rintro e w5 ⟨qa, qc, rfl, J5, K5⟩) | fail)
          have R2 := Aside.mk (rows_ (X.it.quiet K5.it).c (by omega) 6)
          go_upto_region 18 with (first | (go_at_call 8; refine R2.it.mono ?_; clear R2; rintro e w6 ⟨qb, qd, rfl, J6, K6⟩) | fail)
          have AL := Aside.mk (alike_ (owns_rd3 (owns_later J5.it.1 K6.it (fun _ _ x => x)) rfl) (owns_rd3 J6.it.1 rfl))
          rw [decide_eq_true rfl] at AL
          have X6 := Aside.mk ((X.it.quiet K5.it).quiet K6.it)
          have WQ : Aside (∀ W', Keeps Nowhere w6 W' → (Calls Tryd.prog 10 #[ptr ca] W' fun e w' => e = .returned (.int .i64 (sumL La)) ∧ w' = W') ∧ (Calls Tryd.prog 10 #[ptr cc] W' fun e w' => e = .returned (.int .i64 (sumL La)) ∧ w' = W')) := ⟨fun W' k => ⟨lweight_o (X6.it.quiet k).a, lweight_o (X6.it.quiet k).c⟩⟩
          have es : (sumL La == sumL La) = true := by simp
          generalize sumL La = S at WQ es
          clear WA
          go_wp2_with (first
            | (go_at_call 9; refine AL.it.mono ?_; clear AL; rintro e w7 ⟨rfl, K7⟩; have W1 := Aside.mk (WQ.it _ K7.it).1; have W2 := Aside.mk (WQ.it _ K7.it).2)
            | (go_at_call_of 10 (ptr ca); refine W1.it.mono ?_; rintro e w8 ⟨rfl, rfl⟩)
            | (go_at_call_of 10 (ptr cc); refine W2.it.mono ?_; rintro e w8 ⟨rfl, rfl⟩)
            | fail)
          go_ret
          exact ⟨rfl, (((X.it.quiet K5.it).quiet K6.it).quiet K7.it).og.g.bel⟩
end Go.Proofs.YtcmgmhdlokcgbabDoor
