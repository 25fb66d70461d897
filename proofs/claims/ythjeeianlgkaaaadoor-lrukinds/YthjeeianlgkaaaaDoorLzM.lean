/-
  LruKinds' walk
-/
import Derived.Test.YthjeeianlgkaaaaDoorLzx
namespace Go.Proofs.YthjeeianlgkaaaaDoor
open Go.RowKit

set_option maxHeartbeats 0 in
set_option maxRecDepth 20000 in
theorem lruKinds_walk {A : Nat → Addr} (room : Int) (v1 : Value) (ys : List Oz) (w : World) (hsp : Sents 144 codeVars A w ∧ PowT w) (hwf : (Lit.int .i64 room).wf = true) (h1 : Ops28Arg w v1 ys) :
    Calls Tryd.prog 4 #[.int .i64 room, v1] w fun e w' => e = .returned (.bool true) ∧ Below w.heap.size w w' := by
  obtain ⟨hs, hp⟩ := hsp
  have AW := Aside.mk (awake_ok hs)
  have hr : I6 room := lu_wf hwf
  have HS := Aside.mk hs
  have HP := Aside.mk hp
  clear hs hwf hp
  rcases Int.lt_or_le room 0 with hneg | hpos
  · have q1 : decide (room < 0) = true := decide_eq_true hneg
    go_enter Tryd.func4, Tryd.ntmps4
    go_upto_region 3 with (first | (go_at_call 5; refine AW.it.mono ?_; clear AW; rintro e w1 ⟨rfl, K1⟩) | fail)
    have N1 := Aside.mk (Lulnn.new_neg (HS.it.later K1.it.bel) hneg)
    go_upto_region 4 with (first | (go_at_call 6; refine N1.it.mono ?_; clear N1; rintro e w2 ⟨rfl, K2⟩) | fail)
    have N2 := Aside.mk (Lultt.new_neg (HS.it.later (K1.it.trans K2.it).bel) hneg)
    go_upto_region 5 with (first | (go_at_call 18; refine N2.it.mono ?_; clear N2; rintro e w3 ⟨rfl, K3⟩) | fail)
    have N3 := Aside.mk (Lulpp.new_neg (HS.it.later ((K1.it.trans K2.it).trans K3.it).bel) hneg)
    go_upto_region 6 with (first | (go_at_call 19; refine N3.it.mono ?_; clear N3; rintro e w4 ⟨rfl, K4⟩) | fail)
    go_wp2_with fail
    go_ret
    exact ⟨rfl, (((K1.it.trans K2.it).trans K3.it).trans K4.it).bel⟩
  · obtain ⟨L1, B1⟩ := h1
    have C1 := L1
    obtain ⟨q1, c1, rfl, hc1, hx1, _⟩ := C1
    have O1 := Aside.mk (fun i z (hi : ys[i]? = some z) => oz_at L1 hi)
    clear L1
    obtain ⟨n1, hn1⟩ : ∃ n, ys.length = n := ⟨_, rfl⟩
    have E1 := Aside.mk hn1
    rw [hn1] at B1 hc1 ⊢
    clear hn1
    have mx : maxLen ≤ 9223372036854775807 := by decide
    go_enter Tryd.func4, Tryd.ntmps4
    go_upto_region 3 with (first | (go_at_call 5; refine AW.it.mono ?_; clear AW; rintro e w1 ⟨rfl, K1⟩) | fail)
    have G1 := Aside.mk ((OnG.start HS.it).quiet K1.it)
    have N1 := Aside.mk (Lulnn.new_pos (fun _ => 0) 1 w1 hpos hr.2)
    go_upto_region 4 with (first | (go_at_call 6; refine N1.it.mono ?_; clear N1; rintro e w2 ⟨ca, rfl, A2, K2⟩) | fail)
    have G2 := Aside.mk (G1.it.sn (I := fun _ => False) (Sn.quiet K2.it 1) (fun x => x))
    generalize give (fun _ => 0) w1.heap.size 1 = own2 at A2 G2
    have N2 := Aside.mk (Lultt.new_pos own2 2 w2 hpos hr.2)
    go_upto_region 5 with (first | (go_at_call 18; refine N2.it.mono ?_; clear N2; rintro e w3 ⟨cb, rfl, B3, K3⟩) | fail)
    have G3 := Aside.mk (G2.it.sn (I := fun _ => False) (Sn.quiet K3.it 2) (fun x => x))
    have A3 := Aside.mk (A2.it.sn (I := fun _ => False) (Sn.quiet K3.it 2) (fun x => x))
    generalize give own2 w2.heap.size 2 = own3 at A3 B3 G3
    have N3 := Aside.mk (Lulpp.new_pos own3 3 w3 hpos hr.2)
    go_upto_region 6 with (first | (go_at_call 19; refine N3.it.mono ?_; clear N3; rintro e w4 ⟨cc, rfl, C4, K4⟩) | fail)
    have X4 : Aside (Kw A w (give own3 w3.heap.size 3) w4 ca cb cc room [] [] (List.map (sub (fun _ => 0)) []) (fun _ => 0) []) := ⟨G3.it.sn (I := fun _ => False) (Sn.quiet K4.it 3) (fun x => x), HP.it, A3.it.sn (I := fun _ => False) (Sn.quiet K4.it 3) (fun x => x), B3.it.sn (I := fun _ => False) (Sn.quiet K4.it 3) (fun x => x), C4.it, fun x hx => by simp at hx⟩
    generalize give own3 w3.heap.size 3 = own4 at X4
    clear G1 G2 G3 A2 A3 B3 C4 K1 K2 K3 K4
    go_upto_region 9 with fail
    go_loopw [11] (fun iv wr => ∃ (m : Nat) (own : Nat → Nat) (La : List Rx) (H : Int → Int), iv = .int .i64 m ∧ (m ≤ n1 ∧ m ≤ 500) ∧ La.length ≤ m ∧ Aside (Kw A w own wr ca cb cc room La La (La.map (sub H)) H La)) (fun iv _ => n1 - natI iv)
    case atStart => exact ⟨0, own4, [], _, rfl, ⟨Nat.zero_le _, Nat.zero_le _⟩, Nat.le_refl _, X4⟩
    case round =>
      clear X4
      obtain ⟨m, own, La, H, rfl, hm, hla, X⟩ := hrel
      by_cases hlt : m < n1 ∧ m < 500
      · have k1 : (m : Int) < (n1 : Int) := by omega
        have k2 : (m : Int) < 500 := by omega
        obtain ⟨z, hz⟩ : ∃ z, ys[m]? = some z := ⟨_, List.getElem?_eq_getElem (by rw [E1.it]; exact hlt.1)⟩
        obtain ⟨b, o, rfl, op0⟩ := O1.it m z hz
        obtain ⟨g0, g1, g2, g3, g4, zok⟩ := op0.later X.it.og.g.bel
        clear op0 hz
        have KB : Aside (Keeps Nowhere wr (wr.alloc (.cells #[.int .i64 z.kd, .int .i64 z.k, .int .i64 z.v, .int .i64 z.w, .int .i64 z.u] 32))) := ⟨(Keeps.refl _ _).alloc _⟩
        have CB : Aside (CellsO (give own wr.heap.size 8) 8 (wr.alloc (.cells #[.int .i64 z.kd, .int .i64 z.k, .int .i64 z.v, .int .i64 z.w, .int .i64 z.u] 32)) wr.heap.size 32 z.cells) := ⟨Cells.new wr _ _, give_new (Nat.le_refl _)⟩
        have X1 := Aside.mk (X.it.sn (I := fun _ => False) (Sn.quiet KB.it 8) (fun x => x) (fun x => x) (fun x => x) (fun x => x) (fun x => x))
        go_upto_region 12 with fail
        generalize wr.alloc (.cells #[.int .i64 z.kd, .int .i64 z.k, .int .i64 z.v, .int .i64 z.w, .int .i64 z.u] 32) = W1 at CB X1 ⊢
        generalize give own wr.heap.size 8 = own1 at CB X1
        clear KB X
        generalize wr.heap.size = ob at CB ⊢
        clear g0 g1 g2 g3 g4
        have B0 : Aside (Bq W1 ob z.k W1) := ⟨⟨Keeps.refl _ _, CB.it.1.cell 1⟩⟩
        have B0d := Bq.next B0 (Keeps.refl _ _).drew
        have B0a := Bq.next B0 ((Keeps.refl _ _).alloc (.cells #[.int .i64 0, .int .i64 0] 55)).drew
        have hp1 := X1.it.pow
        have IT : Aside (Calls Tryd.prog 20 #[.int .i64 z.k] W1.drew fun e w' => e = .returned (.string (Lultt.tx z.k)) ∧ Aside (Bq W1 ob z.k w')) := ⟨by
          refine (itoaU (powT_later hp1 B0d.it.keeps.bel) zok.k).mono ?_
          rintro e w' ⟨rfl, kk⟩
          exact ⟨rfl, Bq.next B0d kk.it⟩⟩
        have IU : Aside (Calls Tryd.prog 20 #[.int .i64 z.k] (W1.alloc (.cells #[.int .i64 0, .int .i64 0] 55)).drew fun e w' => e = .returned (.string (Lultt.tx z.k)) ∧ Aside (Bq W1 ob z.k w') ∧ Aside (Cells w' W1.heap.size 55 [.int .i64 0, .int .i64 0]) ∧ w'.cell? ⟨W1.heap.size, 0, none⟩ = some (.int .i64 0) ∧ w'.cell? ⟨W1.heap.size, 1, none⟩ = some (.int .i64 0) ∧ ∀ j, w'.frozen? ⟨W1.heap.size, j, none⟩ = false) := ⟨by
          refine (itoaU (powT_later hp1 B0a.it.keeps.bel) zok.k).mono ?_
          rintro e w' ⟨rfl, kk⟩
          have c6 := (Cells.drew (Cells.new W1 55 [.int .i64 0, .int .i64 0])).later kk.it (fun x => x)
          exact ⟨rfl, Bq.next B0a kk.it, ⟨c6⟩, c6.cell 0, c6.cell 1, c6.frozen⟩⟩
        clear hp1
        have NG : ob ≠ W1.heap.size := by have := CB.it.1.lt; omega
        have ZK := Aside.mk zok
        go_cut [13, 14] (fun kv pv wx => ∃ gp, kv = .string (Lultt.tx z.k) ∧ pv = ptr gp ∧ Aside (Keeps Nowhere W1 wx ∧ Cells wx gp 55 [.int .i64 z.k, .int .i64 7] ∧ W1.heap.size ≤ gp))
        case first =>
          go_region_held_law (fun w' => w'.cell? ⟨ob, 1, none⟩ = some (.int .i64 z.k)) (first | exact Bq.k1 (by with_reducible assumption) | exact alloc_cell _ (Bq.k1 (by with_reducible assumption)) | exact set2_cell NG (Bq.k1 (by with_reducible assumption))) (first
            | (go_at_call 20; with_reducible refine IT.it.mono ?_; rintro e w6 ⟨rfl, B6⟩)
            | (go_at_call 20; with_reducible refine IU.it.mono ?_; rintro e w6 ⟨rfl, B6, C6, q0, q1, q2⟩))
          all_goals go_wp2_with fail
          all_goals first
            | (go_meet
               case rel => exact ⟨w6.heap.size, rfl, rfl, ⟨(B6.it.keeps).alloc _, Cells.new w6 _ _, B6.it.keeps.size⟩⟩)
            | (go_meet
               case rel => exact ⟨W1.heap.size, rfl, rfl, ⟨Bq.fresh B6 (Nat.le_refl _) _ _, (C6.it.setCell 0 _).setCell 1 _, Nat.le_refl _⟩⟩)
        case rest =>
          obtain ⟨gp, rfl, rfl, Y⟩ := hcut
          clear IT IU B0 B0d B0a NG zok
          have X2 := Aside.mk (X1.it.sn (I := fun _ => False) (Sn.quiet Y.it.1 9) (fun x => x) (fun x => x) (fun x => x) (fun x => x) (fun x => x))
          have CB2 := Aside.mk (CB.it.sn (I := fun _ => False) (Sn.quiet Y.it.1 9) (fun x => x))
          have CP2 : Aside (CellsO (give own1 W1.heap.size 9) 9 wc gp 55 [.int .i64 z.k, .int .i64 7]) := ⟨Y.it.2.1, give_new Y.it.2.2⟩
          generalize give own1 W1.heap.size 9 = own2 at X2 CB2 CP2
          clear X1 CB Y
          have g0 : wc.cell? ⟨ob, 0, none⟩ = some (.int .i64 z.kd) := CB2.it.1.cell 0
          have g1 : wc.cell? ⟨ob, 1, none⟩ = some (.int .i64 z.k) := CB2.it.1.cell 1
          have g2 : wc.cell? ⟨ob, 2, none⟩ = some (.int .i64 z.v) := CB2.it.1.cell 2
          have g3 : wc.cell? ⟨ob, 3, none⟩ = some (.int .i64 z.w) := CB2.it.1.cell 3
          have g4 : wc.cell? ⟨ob, 4, none⟩ = some (.int .i64 z.u) := CB2.it.1.cell 4
          rename_i hKK
          refine hKK _ _ ?_
          go_step
          go_cut [21] (fun _ wx => ∃ (own9 : Nat → Nat) (L9 : List Rx) (H9 : Int → Int), L9.length ≤ m + 1 ∧ Aside (Kw A w own9 wx ca cb cc room L9 L9 (L9.map (sub H9)) H9 L9))
          case rest =>
            obtain ⟨own9, L9, H9, hl, X9⟩ := hcut
            as_aux_lemma =>
              clear X2 CB2 CP2 g0 g1 g2 g3 g4
              have NA := X9.it.a.lok
              have HB9 := Aside.mk (fun x hx => (NA.ok x hx).k)
              clear NA
              have KA := Aside.mk (Lulnn.keys_o X9.it.a (show L9.length * 8 ≤ 140737488355328 by omega) 5)
              have hl9 : (L9.map (sub H9)).length = L9.length := List.length_map _
              have eq1 : (sumL L9 == sumL L9) = true := by simp
              have eq2 : ((L9.length : Int) == (L9.length : Int)) = true := by simp
              go_wp2_with (first
                | (go_at_call 31; refine KA.it.mono ?_; clear KA; rintro e wa ⟨va, rfl, RA, K1⟩
                   obtain ⟨qa, na, da, rfl⟩ := owns_shapeK RA.it.1
                   obtain rfl := owR_len RA.it
                   have Xa := Aside.mk (X9.it.sn (I := fun _ => False) (Sn.quiet K1.it 5) (fun x => x) (fun x => x) (fun x => x) (fun x => x) (fun x => x))
                   have KBb := Aside.mk (Lultt.keys_o Xa.it.b (show L9.length * 16 ≤ 140737488355328 by omega) 6))
                | (go_at_call 32; refine KBb.it.mono ?_; clear KBb; rintro e wb ⟨vb, rfl, RB, K2⟩
                   obtain ⟨qb, nb, db, rfl⟩ := owns_shapeK RB.it.1
                   obtain rfl := owR_len RB.it
                   have Xb := Aside.mk (Xa.it.sn (I := fun _ => False) (Sn.quiet K2.it 6) (fun x => x) (fun x => x) (fun x => x) (fun x => x) (fun x => x))
                   have RAb := Aside.mk (RA.it.sn (I := fun _ => False) (Sn.quiet K2.it 6) (fun x => x))
                   have KC := Aside.mk (Lulpp.keys_o Xb.it.c (show (L9.map (sub H9)).length * 16 ≤ 140737488355328 by omega) 7))
                | (go_at_call 33; refine KC.it.mono ?_; clear KC; rintro e wc ⟨vc, rfl, RC, K3⟩
                   obtain ⟨qc, nc, dc, rfl⟩ := owns_shapeK RC.it.1
                   have hnc := owR_len RC.it
                   rw [hl9] at hnc
                   subst hnc
                   have Xc := Aside.mk (Xb.it.sn (I := fun _ => False) (Sn.quiet K3.it 7) (fun x => x) (fun x => x) (fun x => x) (fun x => x) (fun x => x))
                   have RC1 := RC.it.1
                   rw [rkP, sub_key] at RC1
                   have TD := Aside.mk (told_ Xc.it.pow (to_of (owns_later RAb.it.1 K3.it (fun _ _ x => x)) (owns_later RB.it.1 K3.it (fun _ _ x => x)) RC1 rfl rfl hl9 HB9.it))
                   clear RC1)
                | (go_at_call 24; refine TD.it.mono ?_; clear TD; rintro e wd ⟨rfl, K4⟩
                   have Xd := Aside.mk (Xc.it.quiet K4.it)
                   have WA := Aside.mk (Lulnn.lweight_o Xd.it.a)
                   have WB := Aside.mk (Lultt.lweight_o Xd.it.b)
                   have LA := Aside.mk (Lulnn.len_o Xd.it.a)
                   have LC := Aside.mk (Lulpp.len_o Xd.it.c)
                   rw [hl9] at LC)
                | (go_at_call 17; refine WA.it.mono ?_; clear WA; rintro e we ⟨rfl, hw⟩; have hw := hw.symm; subst hw)
                | (go_at_call 34; refine WB.it.mono ?_; clear WB; rintro e we ⟨rfl, hw⟩; have hw := hw.symm; subst hw)
                | (go_at_call 16; refine LA.it.mono ?_; clear LA; rintro e we ⟨rfl, hw⟩; have hw := hw.symm; subst hw)
                | (go_at_call 35; refine LC.it.mono ?_; clear LC; rintro e we ⟨rfl, hw⟩; have hw := hw.symm; subst hw)
                | fail)
              go_roundw
              case rel => exact ⟨m + 1, _, _, _, by go_num, by omega, by omega, Xd⟩
              case measure => simp [natI]; omega
          go_upto_region 14 with fail
          by_cases e1 : z.kd = 1
          · have q1 : (z.kd == 1) = true := by simp [e1]
            clear e1
            as_aux_lemma =>
              have PA := Aside.mk (putN_any X2.it.a X2.it.og.sents ZK.it (by omega) 5)
              go_upto_region 16 with (first | (go_at_call 21; refine PA.it.mono ?_; clear PA; rintro e w3 ⟨qa, qc, ev1, own3, rfl, A3, E3, R3, S3⟩) | fail)
              have X3 := Aside.mk (X2.it.setA S3.it A3.it)
              have CB3 := Aside.mk (CB2.it.sn S3.it (by decide))
              have CP3 := Aside.mk (CP2.it.sn S3.it (by decide))
              clear g0 g1 g2 g3 g4 X2 CB2 CP2 A3 S3
              have kd3 : Aside (Keeps Nowhere w3 w3.drew) := ⟨(Keeps.refl _ _).drew⟩
              have IV : Aside (Calls Tryd.prog 20 #[.int .i64 z.v] w3.drew fun e w' => e = .returned (.string (Lultt.tx z.v)) ∧ Aside (Keeps Nowhere w3 w')) := ⟨by
                refine (itoaU (powT_later X3.it.pow kd3.it.bel) ZK.it.v).mono ?_
                rintro e w' ⟨rfl, kk⟩
                exact ⟨rfl, ⟨kd3.it.trans kk.it⟩⟩⟩
              have c3d := CB3.it.1.later kd3.it (fun x => x)
              have S0 : w3.drew.cell? ⟨ob, 2, none⟩ = some (.int .i64 z.v) ∧ w3.drew.cell? ⟨ob, 3, none⟩ = some (.int .i64 z.w) ∧ w3.drew.cell? ⟨ob, 4, none⟩ = some (.int .i64 z.u) := ⟨c3d.cell 2, c3d.cell 3, c3d.cell 4⟩
              clear c3d kd3
              go_region_held_law (fun w' => w'.cell? ⟨ob, 2, none⟩ = some (.int .i64 z.v) ∧ w'.cell? ⟨ob, 3, none⟩ = some (.int .i64 z.w) ∧ w'.cell? ⟨ob, 4, none⟩ = some (.int .i64 z.u)) (first | exact S0 | exact S5 | exact S6) (first
                | (go_at_call 20; refine IV.it.mono ?_; clear IV; rintro e w5 ⟨rfl, K5⟩
                   have X5 := Aside.mk (X3.it.quiet K5.it)
                   have c5 := CB3.it.1.later K5.it (fun x => x)
                   have S5 : w5.cell? ⟨ob, 2, none⟩ = some (.int .i64 z.v) ∧ w5.cell? ⟨ob, 3, none⟩ = some (.int .i64 z.w) ∧ w5.cell? ⟨ob, 4, none⟩ = some (.int .i64 z.u) := ⟨c5.cell 2, c5.cell 3, c5.cell 4⟩
                   clear c5
                   have PB := Aside.mk (putT_any X5.it.b X5.it.og.sents ZK.it (by omega) 6))
                | (go_at_call 22; refine PB.it.mono ?_; clear PB; rintro e w6 ⟨qb, qd, ev2, own6, rfl, B6, E6, R6, T6⟩
                   have X6 := Aside.mk (X5.it.setB T6.it B6.it)
                   have CB6 := Aside.mk ((CB3.it.sn (I := fun _ => False) (Sn.same K5.it) (fun x => x)).sn T6.it (by decide))
                   have S6 : w6.cell? ⟨ob, 2, none⟩ = some (.int .i64 z.v) ∧ w6.cell? ⟨ob, 3, none⟩ = some (.int .i64 z.w) ∧ w6.cell? ⟨ob, 4, none⟩ = some (.int .i64 z.u) := ⟨CB6.it.1.cell 2, CB6.it.1.cell 3, CB6.it.1.cell 4⟩)
                | fail)
              clear S0 S5 S6
              have CP6 := Aside.mk ((CP3.it.sn (I := fun _ => False) (Sn.same K5.it) (fun x => x)).sn T6.it (by decide))
              have R36 := Aside.mk ((R3.it.sn (I := fun _ => False) (Sn.same K5.it) (fun x => x)).sn T6.it (by decide))
              have p0 : w6.cell? ⟨gp, 0, none⟩ = some (.int .i64 z.k) := CP6.it.1.cell 0
              have p1 : w6.cell? ⟨gp, 1, none⟩ = some (.int .i64 7) := CP6.it.1.cell 1
              have g2 : w6.cell? ⟨ob, 2, none⟩ = some (.int .i64 z.v) := CB6.it.1.cell 2
              have g3 : w6.cell? ⟨ob, 3, none⟩ = some (.int .i64 z.w) := CB6.it.1.cell 3
              have g4 : w6.cell? ⟨ob, 4, none⟩ = some (.int .i64 z.u) := CB6.it.1.cell 4
              have K7 : Aside (Keeps Nowhere w6 (w6.alloc (.cells #[.int .i64 z.v] 3))) := ⟨(Keeps.refl _ _).alloc _⟩
              have CV : Aside (CellsO (give own6 w6.heap.size 20) 20 (w6.alloc (.cells #[.int .i64 z.v] 3)) w6.heap.size 3 [.int .i64 z.v]) := ⟨Cells.new w6 _ _, give_new (Nat.le_refl _)⟩
              have X7 := Aside.mk (X6.it.sn (I := fun _ => False) (Sn.quiet K7.it 20) (fun x => x) (fun x => x) (fun x => x) (fun x => x) (fun x => x))
              have CB7 := Aside.mk (CB6.it.1.later K7.it (fun x => x))
              have R37 := Aside.mk (R36.it.sn (I := fun _ => False) (Sn.quiet K7.it 20) (fun x => x))
              have R67 := Aside.mk (R6.it.sn (I := fun _ => False) (Sn.quiet K7.it 20) (fun x => x))
              have g3a : (w6.alloc (.cells #[.int .i64 z.v] 3)).cell? ⟨ob, 3, none⟩ = some (.int .i64 z.w) := CB7.it.cell 3
              have g4a : (w6.alloc (.cells #[.int .i64 z.v] 3)).cell? ⟨ob, 4, none⟩ = some (.int .i64 z.u) := CB7.it.cell 4
              have HN := Aside.mk (X3.it.c.lok.one)
              have HO := Aside.mk (X3.it.b.lok)
              have PC := Aside.mk (putP_any (L := La) X7.it.c X7.it.og.sents X3.it.b.lok.one ZK.it (by omega) w6.heap.size 7)
              clear X3 X5 X6 CB3 CP3 R3 R6 R36 CB6 CP6 B6 T6 K5 HN
              go_upto_region 18 with (first | (go_at_call 23; refine PC.it.mono ?_; clear PC; rintro e w8 ⟨qe, qf, ev3, own8, H9, rfl, C8, E8, R8, S8⟩) | fail)
              clear p0 p1 g2 g3 g4 g3a g4a CB7
              have X8 := Aside.mk (X7.it.setC S8.it C8.it.1)
              have CV8 := Aside.mk (CV.it.sn S8.it (by decide))
              have V8 := Aside.mk (Hv.put (room := room) X8.it.v HO.it.one C8.it.2.1 C8.it.2.2 ZK.it.v CV8.it)
              have X9 : Aside (Kw A w own8 w8 ca cb cc room (putB room La z) (putB room La z) ((putB room La z).map (sub H9)) H9 (putB room La z)) := ⟨X8.it.og, X8.it.pw, X8.it.a, X8.it.b, X8.it.c, V8.it⟩
              have R38 := Aside.mk (R37.it.sn S8.it (by decide))
              have R68 := Aside.mk (R67.it.sn S8.it (by decide))
              have CD1 := Aside.mk (code_of X9.it.og.sents E3.it)
              have CD2 := Aside.mk (code_of X9.it.og.sents E6.it)
              have CD3 := Aside.mk (code_of X9.it.og.sents E8.it)
              have TP := Aside.mk (told_ X9.it.pow (to_of R38.it.1 R68.it.1 R8.it.1 rfl rfl rfl (goneB_ok HO.it z)))
              have hl : (putB room La z).length ≤ m + 1 := by have := putB_len' room La z; omega
              obtain ⟨L9, hL9⟩ : ∃ L9, putB room La z = L9 := ⟨_, rfl⟩
              rw [hL9] at X9 hl
              have ecd : (codeB room z == codeB room z) = true := by simp
              generalize codeB room z = cd at CD1 CD2 CD3 ecd
              clear X8 X7 V8 CV CV8 C8 S8 R37 R67 R38 R68 R8 E3 E6 E8 hL9 K7
              go_upto_region 19 with (first
                | (go_at_call_of 7 ev1; refine CD1.it.mono ?_; clear CD1; rintro e we ⟨rfl, hw⟩; have hw := hw.symm; subst hw)
                | fail)
              go_wp2_with (first
                | (go_at_call_of 7 ev2; refine CD2.it.mono ?_; clear CD2; rintro e we ⟨rfl, hw⟩; have hw := hw.symm; subst hw)
                | (go_at_call_of 7 ev3; refine CD3.it.mono ?_; clear CD3; rintro e we ⟨rfl, hw⟩; have hw := hw.symm; subst hw)
                | (go_at_call 24; refine TP.it.mono ?_; clear TP; rintro e wt ⟨rfl, KT⟩
                   have Y9 := Aside.mk (X9.it.quiet KT.it))
                | fail)
              clear X9
              have X9 := Y9
              clear Y9
              go_meet
              case rel => exact ⟨_, _, _, by omega, X9⟩
          · have q1 : (z.kd == 1) = false := by simp [e1]
            clear e1
            by_cases e2 : z.kd = 2
            · have q2 : (z.kd == 2) = true := by simp [e2]
              clear e2
              have GA := Aside.mk (get_i X2.it.a ZK.it.k z.u)
              have hl := getL_len La z.k z.u
              have HG := Aside.mk (getL_sub' La z.k z.u)
              rcases got_cases La H z.k z.u with ⟨b0, t0, v0, l0⟩ | ⟨x, hx, hxk, b0, t0, v0, l0⟩
              · have HI := Aside.mk t0
                clear HI
                as_aux_lemma =>
                  rw [t0, b0] at GA
                  go_upto_region 23 with (first | (go_at_call 11; refine GA.it.mono ?_; clear GA; rintro e w3 ⟨rfl, A3, S3⟩) | fail)
                  have X3 := Aside.mk (X2.it.setA S3.it A3.it)
                  have CB3 := Aside.mk (CB2.it.sn S3.it (by decide))
                  have CP3 := Aside.mk (CP2.it.sn S3.it (by decide))
                  clear g0 g1 g2 g3 g4 X2 CB2 CP2 A3
                  have g4 : w3.cell? ⟨ob, 4, none⟩ = some (.int .i64 z.u) := CB3.it.1.cell 4
                  have GB := Aside.mk (Lultt.get_o X3.it.b (k := z.k) ZK.it.k z.u)
                  rw [v0, b0] at GB
                  go_upto_region 24 with (first | (go_at_call 25; refine GB.it.mono ?_; clear GB; rintro e w4 ⟨rfl, B4, S4⟩) | fail)
                  have X4 := Aside.mk (X3.it.setB S4.it B4.it)
                  have CB4 := Aside.mk (CB3.it.sn S4.it (by decide))
                  have CP4 := Aside.mk (CP3.it.sn S4.it (by decide))
                  clear g4 X3 CB3 CP3 B4
                  have g4 : w4.cell? ⟨ob, 4, none⟩ = some (.int .i64 z.u) := CB4.it.1.cell 4
                  have p0 : w4.cell? ⟨gp, 0, none⟩ = some (.int .i64 z.k) := CP4.it.1.cell 0
                  have p1 : w4.cell? ⟨gp, 1, none⟩ = some (.int .i64 7) := CP4.it.1.cell 1
                  have GC := Lulpp.get_o X4.it.c (k := z.k) ZK.it.k z.u
                  rw [kv_in ZK.it.k, l0, sub_gotB, b0, sub_get] at GC
                  have GC1 := Aside.mk GC
                  clear GC
                  go_upto_region 25 with (first | (go_at_call 26; refine GC1.it.mono ?_; clear GC1; rintro e w5 ⟨rfl, C5, S5⟩) | fail)
                  have X5 := Aside.mk (X4.it.setC S5.it C5.it)
                  have X9 : Aside (Kw A w own2 w5 ca cb cc room (getL La z.k z.u) (getL La z.k z.u) ((getL La z.k z.u).map (sub H)) H (getL La z.k z.u)) := ⟨X5.it.og, X5.it.pw, X5.it.a, X5.it.b, X5.it.c, X5.it.v.sub HG.it⟩
                  clear X4 X5 CB4 CP4 C5 g4 p0 p1 t0 v0 l0 b0
                  have hl2 : (getL La z.k z.u).length ≤ m + 1 := by omega
                  obtain ⟨L9, hL9⟩ : ∃ L9, getL La z.k z.u = L9 := ⟨_, rfl⟩
                  rw [hL9] at X9 hl2
                  clear hL9 HG
                  clear hl
                  clear S3 S4 S5
                  go_wp2_with fail
                  go_meet
                  case rel => exact ⟨_, _, _, by omega, X9⟩
              · obtain ⟨bb, hbb, hxt, hcv⟩ := X2.it.v x hx
                rw [hbb, tv_nat] at l0
                have IX := Aside.mk (And.intro hxt hcv)
                clear hx hxk hbb hxt hcv
                as_aux_lemma =>
                  rw [t0, b0] at GA
                  go_upto_region 23 with (first | (go_at_call 11; refine GA.it.mono ?_; clear GA; rintro e w3 ⟨rfl, A3, S3⟩) | fail)
                  have X3 := Aside.mk (X2.it.setA S3.it A3.it)
                  have CB3 := Aside.mk (CB2.it.sn S3.it (by decide))
                  have CP3 := Aside.mk (CP2.it.sn S3.it (by decide))
                  clear g0 g1 g2 g3 g4 X2 CB2 CP2 A3
                  have g4 : w3.cell? ⟨ob, 4, none⟩ = some (.int .i64 z.u) := CB3.it.1.cell 4
                  have GB := Aside.mk (Lultt.get_o X3.it.b (k := z.k) ZK.it.k z.u)
                  rw [v0, b0] at GB
                  go_upto_region 24 with (first | (go_at_call 25; refine GB.it.mono ?_; clear GB; rintro e w4 ⟨rfl, B4, S4⟩) | fail)
                  have X4 := Aside.mk (X3.it.setB S4.it B4.it)
                  have CB4 := Aside.mk (CB3.it.sn S4.it (by decide))
                  have CP4 := Aside.mk (CP3.it.sn S4.it (by decide))
                  clear g4 X3 CB3 CP3 B4
                  have g4 : w4.cell? ⟨ob, 4, none⟩ = some (.int .i64 z.u) := CB4.it.1.cell 4
                  have p0 : w4.cell? ⟨gp, 0, none⟩ = some (.int .i64 z.k) := CP4.it.1.cell 0
                  have p1 : w4.cell? ⟨gp, 1, none⟩ = some (.int .i64 7) := CP4.it.1.cell 1
                  have GC := Lulpp.get_o X4.it.c (k := z.k) ZK.it.k z.u
                  rw [kv_in ZK.it.k, l0, sub_gotB, b0, sub_get] at GC
                  have GC1 := Aside.mk GC
                  clear GC
                  go_upto_region 25 with (first | (go_at_call 26; refine GC1.it.mono ?_; clear GC1; rintro e w5 ⟨rfl, C5, S5⟩) | fail)
                  have X5 := Aside.mk (X4.it.setC S5.it C5.it)
                  have X9 : Aside (Kw A w own2 w5 ca cb cc room (getL La z.k z.u) (getL La z.k z.u) ((getL La z.k z.u).map (sub H)) H (getL La z.k z.u)) := ⟨X5.it.og, X5.it.pw, X5.it.a, X5.it.b, X5.it.c, X5.it.v.sub HG.it⟩
                  clear X4 X5 CB4 CP4 C5 g4 p0 p1 t0 v0 l0 b0
                  have hl2 : (getL La z.k z.u).length ≤ m + 1 := by omega
                  obtain ⟨L9, hL9⟩ : ∃ L9, getL La z.k z.u = L9 := ⟨_, rfl⟩
                  rw [hL9] at X9 hl2
                  clear hL9 HG
                  have CX : Aside (CellsO own2 20 w5 bb 3 [.int .i64 x.t]) := ⟨((IX.it.2.sn S3.it (by decide)).sn S4.it (by decide)).sn S5.it (by decide)⟩
                  have x0 : w5.cell? ⟨bb, 0, none⟩ = some (.int .i64 x.t) := CX.it.1.cell 0
                  have IT := Aside.mk (itoaU X9.it.pow IX.it.1)
                  clear hl
                  clear S3 S4 S5 CX
                  go_wp2_with (first
                    | (go_at_call 20; refine IT.it.mono ?_; clear IT; rintro e wi ⟨rfl, KI⟩
                       have x1 : wi.cell? ⟨bb, 0, none⟩ = some (.int .i64 x.t) := (by rw [World.cell?_of_block (w := w5) (KI.it.block bb (World.block_lt_of_cell? w5 _ x0) (fun x => x))]; exact x0)
                       have Y9 := Aside.mk (X9.it.quiet KI.it))
                    | fail)
                  go_meet
                  case rel => exact ⟨_, _, _, by omega, Y9⟩
            · have q2 : (z.kd == 2) = false := by simp [e2]
              clear e2
              by_cases e4 : z.kd = 4
              · have q4 : (z.kd == 4) = true := by simp [e4]
                clear e4
                as_aux_lemma =>
                  have DA := Aside.mk (Lulnn.drop_o X2.it.a (k := z.k) ZK.it.k)
                  have hl := dropL_len (L := La) (k := z.k)
                  go_upto_region 29 with (first | (go_at_call 13; refine DA.it.mono ?_; clear DA; rintro e w3 ⟨rfl, A3, S3⟩) | fail)
                  have X3 := Aside.mk (X2.it.setA S3.it A3.it)
                  have CP3 := Aside.mk (CP2.it.sn S3.it (by decide))
                  have DB := Aside.mk (Lultt.drop_o X3.it.b (k := z.k) ZK.it.k)
                  clear g0 g1 g2 g3 g4 X2 A3
                  have hq : (hasL La z.k == hasL La z.k) = true := by simp
                  have hq2 : (hasL La z.k != hasL La z.k) = false := by simp
                  go_wp2_with (first
                    | (go_at_call 27; refine DB.it.mono ?_; clear DB; rintro e w4 ⟨rfl, B4, S4⟩
                       have X4 := Aside.mk (X3.it.setB S4.it B4.it)
                       have CP4 := Aside.mk (CP3.it.sn S4.it (by decide))
                       have p0 : w4.cell? ⟨gp, 0, none⟩ = some (.int .i64 z.k) := CP4.it.1.cell 0
                       have p1 : w4.cell? ⟨gp, 1, none⟩ = some (.int .i64 7) := CP4.it.1.cell 1
                       have DC := Lulpp.drop_o X4.it.c (k := z.k) ZK.it.k
                       rw [kv_in ZK.it.k, sub_has, sub_drop] at DC
                       have DC1 := Aside.mk DC
                       clear DC)
                    | (go_at_call 28; refine DC1.it.mono ?_; clear DC1; rintro e w5 ⟨rfl, C5, S5⟩
                       have X5 := Aside.mk (X4.it.setC S5.it C5.it))
                    | fail)
                  have X9 : Aside (Kw A w own2 w5 ca cb cc room (dropL La z.k) (dropL La z.k) ((dropL La z.k).map (sub H)) H (dropL La z.k)) := ⟨X5.it.og, X5.it.pw, X5.it.a, X5.it.b, X5.it.c, X5.it.v.sub (fun x hx => dropL_sub.subset hx)⟩
                  clear X3 X4 X5 CP3 CP4 S3 S4 S5 B4 C5 hq hq2 p0 p1
                  obtain ⟨L9, hL9⟩ : ∃ L9, dropL La z.k = L9 := ⟨_, rfl⟩
                  rw [hL9] at X9 hl
                  clear hL9
                  go_meet
                  case rel => exact ⟨_, _, _, by omega, X9⟩
              · have q4 : (z.kd == 4) = false := by simp [e4]
                clear e4
                by_cases e5 : z.kd = 5
                · have q5 : (z.kd == 5) = true := by simp [e5]
                  clear e5
                  as_aux_lemma =>
                    have hl := stayL_len La z.u
                    have HO := Aside.mk X2.it.a.lok
                    have kdc : Aside (Keeps Nowhere wc wc.drew) := ⟨(Keeps.refl _ _).drew⟩
                    have X2d := Aside.mk (X2.it.quiet kdc.it)
                    have CB2d := Aside.mk (CB2.it.sn (I := fun _ => False) (Sn.same kdc.it) (fun x => x))
                    have EA := Aside.mk (Lulnn.expire_o X2d.it.a (show La.length * 8 ≤ 140737488355328 by omega) z.u 5)
                    have S0 : wc.drew.cell? ⟨ob, 4, none⟩ = some (.int .i64 z.u) := CB2d.it.1.cell 4
                    clear g0 g1 g2 g3 g4 X2 CB2 CP2 kdc
                    go_upto_region 32 with fail
                    go_region_held_law (fun w' => w'.cell? ⟨ob, 4, none⟩ = some (.int .i64 z.u)) (first | exact S0 | exact S3 | exact S4 | exact S5 | exact S6) (first
                      | (go_at_call 14; refine EA.it.mono ?_; clear EA; rintro e w3 ⟨va, rfl, A3, T3⟩
                         obtain ⟨qa, na, da, rfl⟩ := owns_shapeK A3.it.2.1
                         obtain rfl := owR_len A3.it.2
                         have X3 := Aside.mk (X2d.it.setA T3.it A3.it.1)
                         have CB3 := Aside.mk (CB2d.it.sn T3.it (by decide))
                         have S3 : w3.cell? ⟨ob, 4, none⟩ = some (.int .i64 z.u) := CB3.it.1.cell 4
                         have R3 := Aside.mk A3.it.2
                         generalize give own2 wc.drew.heap.size 5 = own3 at X3 CB3 R3
                         have EB := Aside.mk (Lultt.expire_o X3.it.b (show La.length * 16 ≤ 140737488355328 by omega) z.u 6)
                         clear A3 T3)
                      | (go_at_call 29; refine EB.it.mono ?_; clear EB; rintro e w4 ⟨vb, rfl, A4, T4⟩
                         obtain ⟨qb, nb, db, rfl⟩ := owns_shapeK A4.it.2.1
                         obtain rfl := owR_len A4.it.2
                         have X4 := Aside.mk (X3.it.setB T4.it A4.it.1)
                         have CB4 := Aside.mk (CB3.it.sn T4.it (by decide))
                         have S4 : w4.cell? ⟨ob, 4, none⟩ = some (.int .i64 z.u) := CB4.it.1.cell 4
                         have R4 := Aside.mk A4.it.2
                         have R34 := Aside.mk (R3.it.sn T4.it (by decide))
                         generalize give own3 w3.heap.size 6 = own4 at X4 CB4 R4 R34
                         have EC := Aside.mk (Lulpp.expire_o X4.it.c (show (La.map (sub H)).length * 16 ≤ 140737488355328 by rw [List.length_map]; omega) z.u 7)
                         clear A4 T4)
                      | (go_at_call 30; refine EC.it.mono ?_; clear EC; rintro e w5 ⟨vc, rfl, A5, T5⟩
                         obtain ⟨qc, nc, dc, rfl⟩ := owns_shapeK A5.it.2.1
                         have hnc := owR_len A5.it.2
                         rw [sub_old, List.length_map] at hnc
                         subst hnc
                         have A5a := A5.it.1
                         have A5b := A5.it.2
                         rw [sub_stay] at A5a
                         have X5 := Aside.mk (X4.it.setC T5.it A5a)
                         have CB5 := Aside.mk (CB4.it.sn T5.it (by decide))
                         have S5 : w5.cell? ⟨ob, 4, none⟩ = some (.int .i64 z.u) := CB5.it.1.cell 4
                         have e7 : (List.map (sub H) (oldL La z.u)).length = (oldL La z.u).length := List.length_map _
                         rw [sub_old, rkP, sub_key] at A5b
                         have R45 := Aside.mk (R4.it.sn T5.it (by decide))
                         have R35 := Aside.mk (R34.it.sn T5.it (by decide))
                         have TE := Aside.mk (told_ X5.it.pow (to_of R35.it.1 R45.it.1 A5b.1 rfl rfl e7 (fun x hx => (HO.it.ok x (List.mem_filter.1 hx).1).k)))
                         clear A5a A5b e7)
                      | (go_at_call 24; refine TE.it.mono ?_; clear TE; rintro e w6 ⟨rfl, K6⟩
                         have S6 : w6.cell? ⟨ob, 4, none⟩ = some (.int .i64 z.u) := (CB5.it.1.later K6.it (fun x => x)).cell 4)
                      | fail)
                    clear S0 S3 S4 S5 S6
                    have X6 := Aside.mk (X5.it.quiet K6.it)
                    have X9 : Aside (Kw A w _ w6 ca cb cc room (stayL La z.u) (stayL La z.u) ((stayL La z.u).map (sub H)) H (stayL La z.u)) := ⟨X6.it.og, X6.it.pw, X6.it.a, X6.it.b, X6.it.c, X6.it.v.sub (fun x hx => (List.mem_filter.1 hx).1)⟩
                    clear X2d X3 X4 X5 X6 CB2d CB3 CB4 CB5 R3 R4 R34 R35 R45 A5 T5
                    obtain ⟨L9, hL9⟩ : ∃ L9, stayL La z.u = L9 := ⟨_, rfl⟩
                    rw [hL9] at X9 hl
                    clear hL9
                    go_wp2_with fail
                    go_meet
                    case rel => exact ⟨_, _, _, by omega, X9⟩
                · have q5 : (z.kd == 5) = false := by simp [e5]
                  clear e5
                  have X9 := X2
                  clear X2 CB2 CP2 g0 g1 g2 g3 g4
                  go_wp2_with fail
                  go_meet
                  case rel => exact ⟨_, _, _, by omega, X9⟩
      · rcases Nat.lt_or_ge m n1 with hm5 | hm5
        · obtain rfl : m = 500 := by omega
          have j4 : ((500 : Nat) : Int) < (n1 : Int) := by omega
          go_wp2_with fail
          go_ret
          exact ⟨rfl, X.it.og.g.bel⟩
        · obtain rfl : m = n1 := by omega
          go_wp2_with fail
          go_ret
          exact ⟨rfl, X.it.og.g.bel⟩
end Go.Proofs.YthjeeianlgkaaaaDoor
