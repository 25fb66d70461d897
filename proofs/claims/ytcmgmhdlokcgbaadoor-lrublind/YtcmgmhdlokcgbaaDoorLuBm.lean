/-
  LruBlind's walk
-/
import Derived.Test.YtcmgmhdlokcgbaaDoorLuBl
import Derived.BigRegion
namespace Go.Proofs.YtcmgmhdlokcgbaaDoor
open Go.RowKit Lulnn

variable {w w' w0 W : World} {own own' : Nat → Nat} {i c o j ca cb b q n : Nat} {room k now : Int} {L M La Lb : List Rx} {I : Nat → Prop} {A : Nat → Addr} {x y : Rx} {z : Oz} {v va vb : Value} {ks ms : List Int}

set_option maxHeartbeats 4000000 in
set_option maxRecDepth 20000 in
theorem lruBlind_walk {A : Nat → Addr} (room : Int) (v1 : Value) (ys : List Oz) (v2 : Value) (ks : List Int) (w : World) (hs : Sents 170 codeVars A w) (hwf : (Lit.int .i64 room).wf = true) (h1 : Ops28Arg w v1 ys) (h2 : IntsIArg w v2 ks) :
    Calls Tryd.prog 7 #[.int .i64 room, v1, v2] w fun e w' => e = .returned (.bool true) ∧ Below w.heap.size w w' := by
  have AW := Aside.mk (awake_ok hs)
  have hr : I6 room := lu_wf hwf
  have HS := Aside.mk hs
  clear hs hwf
  rcases Int.lt_or_le room 0 with hneg | hpos
  · go_enter Tryd.func7, Tryd.ntmps7
    go_upto_region 3 with (first | (go_at_call 9; refine AW.it.mono ?_; clear AW; rintro e w1 ⟨rfl, K1⟩) | fail)
    have N1 := Aside.mk (new_neg (HS.it.later K1.it.bel) hneg)
    go_upto_region 4 with (first | (go_at_call 10; refine N1.it.mono ?_; clear N1; rintro e w2 ⟨rfl, K2⟩) | fail)
    have K12 := Aside.mk (K1.it.trans K2.it)
    have N2 := Aside.mk (new_neg (HS.it.later K12.it.bel) hneg)
    go_upto_region 5 with (first | (go_at_call 10; refine N2.it.mono ?_; clear N2; rintro e w3 ⟨rfl, K3⟩) | fail)
    go_wp2_with fail
    go_ret
    exact ⟨rfl, (K12.it.trans K3.it).bel⟩
  · obtain ⟨L1, B1⟩ := h1
    obtain ⟨L2, B2⟩ := h2
    have C1 := L1
    obtain ⟨q1, c1, rfl, hc1, hx1, _⟩ := C1
    have C2 := L2
    obtain ⟨q2, c2, rfl, hc2, hx2, RD0⟩ := C2
    have RD := Aside.mk RD0
    have O1 := Aside.mk (fun i z (hi : ys[i]? = some z) => oz_at L1 hi)
    clear L1 L2 RD0
    obtain ⟨n1, hn1⟩ : ∃ n, ys.length = n := ⟨_, rfl⟩
    obtain ⟨n2, hn2⟩ : ∃ n, ks.length = n := ⟨_, rfl⟩
    have E1 := Aside.mk hn1
    have E2 := Aside.mk hn2
    rw [hn1] at B1 hc1 ⊢
    rw [hn2] at B2 hc2 ⊢
    clear hn1 hn2
    have mx : maxLen ≤ 9223372036854775807 := by decide
    go_enter Tryd.func7, Tryd.ntmps7
    go_upto_region 3 with (first | (go_at_call 9; refine AW.it.mono ?_; clear AW; rintro e w1 ⟨rfl, K1⟩) | fail)
    have G1 := Aside.mk ((OnG.start HS.it).quiet K1.it)
    have N1 := Aside.mk (new_pos (fun _ => 0) 1 w1 hpos hr.2)
    go_upto_region 4 with (first | (go_at_call 10; refine N1.it.mono ?_; clear N1; rintro e w2 ⟨ca, rfl, A2, K2⟩) | fail)
    have G2 := Aside.mk (G1.it.sn (I := fun _ => False) (Sn.quiet K2.it 1) (fun x => x))
    have N2 := Aside.mk (new_pos (give (fun _ => 0) w1.heap.size 1) 2 w2 hpos hr.2)
    go_upto_region 5 with (first | (go_at_call 10; refine N2.it.mono ?_; clear N2; rintro e w3 ⟨cb, rfl, A3, K3⟩) | fail)
    have X3 : Aside (Bw A w (give (give (fun _ => 0) w1.heap.size 1) w2.heap.size 2) w3 ca cb room [] []) := ⟨G2.it.sn (I := fun _ => False) (Sn.quiet K3.it 2) (fun x => x), A2.it.sn (I := fun _ => False) (Sn.quiet K3.it 2) (fun x => x), A3.it⟩
    generalize give (give (fun _ => 0) w1.heap.size 1) w2.heap.size 2 = own0 at X3
    clear G1 G2 A2 A3 K1 K2 K3
    go_upto_region 8 with fail
    go_loopw [11] (fun iv wr => ∃ (m : Nat) (own : Nat → Nat) (La : List Rx), iv = .int .i64 m ∧ (m ≤ n1 ∧ m ≤ 500) ∧ La.length ≤ m ∧ Aside (Bw A w own wr ca cb room La La)) (fun iv _ => n1 - natI iv)
    case atStart => exact ⟨0, own0, [], rfl, ⟨Nat.zero_le _, Nat.zero_le _⟩, Nat.le_refl _, X3⟩
    case round =>
      clear X3
      obtain ⟨m, own, La, rfl, hm, hla, X⟩ := hrel
      by_cases hlt : m < n1 ∧ m < 500
      · have k1 : (m : Int) < (n1 : Int) := by omega
        have k2 : (m : Int) < 500 := by omega
        go_upto_region 11 with fail
        go_loopw [12] (fun jv wx => ∃ (j : Nat) (own : Nat → Nat), jv = .int .i64 j ∧ (j ≤ n2 ∧ j ≤ 20) ∧ Aside (Bw A w own wx ca cb room La La)) (fun jv _ => n2 - natI jv)
        case atStart => exact ⟨0, own, rfl, ⟨Nat.zero_le _, Nat.zero_le _⟩, X⟩
        case round =>
          clear X
          obtain ⟨j, own, rfl, hj, X⟩ := hrel
          by_cases hjt : j < n2 ∧ j < 20
          · have j1 : (j : Int) < (n2 : Int) := by omega
            have j2 : (j : Int) < 20 := by omega
            obtain ⟨y, hy⟩ : ∃ y, ks[j]? = some y := ⟨_, List.getElem?_eq_getElem (by rw [E2.it]; exact hjt.1)⟩
            obtain ⟨yb, g, o, rfl, y0⟩ := RD.it j y hy
            have y1 : wr.cell? ⟨g, o + j, none⟩ = some (.int .i64 y) := by rw [X.it.og.g.bel.cell (World.block_lt_of_cell? w _ y0)]; exact y0
            have PK := Aside.mk (peek_i (k := y) X.it.a yb)
            clear hy y0
            go_wp2_with (first
              | (go_at_call 27; refine PK.it.mono ?_; clear PK; rintro e w5 ⟨rfl, K5⟩; have X5 := Aside.mk (X.it.quiet K5.it); have KY := Aside.mk (keys_o X5.it.a (by have : La.length ≤ 500 := (by omega); omega) 5))
              | (go_at_call 26; refine KY.it.mono ?_; clear KY; rintro e w6 ⟨kv6, rfl, _, K6⟩
                 have X6 := Aside.mk (X5.it.sn (I := fun _ => False) (Sn.quiet K6.it 5) (fun x => x) (fun x => x) (fun x => x))
                 have LE := Aside.mk (len_o X6.it.a); have WE := Aside.mk (lweight_o X6.it.a))
              | (go_at_call 23; refine LE.it.mono ?_; clear LE; rintro e w7 ⟨rfl, rfl⟩)
              | (go_at_call 24; refine WE.it.mono ?_; clear WE; rintro e w8 ⟨rfl, rfl⟩)
              | fail)
            go_roundw
            case rel => exact ⟨j + 1, _, by go_num, by omega, X6⟩
            case measure => simp [natI]; omega
          · obtain ⟨z, hz⟩ : ∃ z, ys[m]? = some z := ⟨_, List.getElem?_eq_getElem (by rw [E1.it]; exact hlt.1)⟩
            obtain ⟨b, o, rfl, op0⟩ := O1.it m z hz
            obtain ⟨g0, g1, g2, g3, g4, zok⟩ := op0.later X.it.og.g.bel
            clear op0 hz
            rcases Nat.lt_or_ge j n2 with hj5 | hj5
            · obtain rfl : j = 20 := by omega
              have j4 : ((20 : Nat) : Int) < (n2 : Int) := by omega
              have KB : Aside (Keeps Nowhere wr (wr.alloc (.cells #[.int .i64 z.kd, .int .i64 z.k, .int .i64 z.v, .int .i64 z.w, .int .i64 z.u] 38))) := ⟨(Keeps.refl _ _).alloc _⟩
              have CB : Aside (CellsO (give own wr.heap.size 8) 8 (wr.alloc (.cells #[.int .i64 z.kd, .int .i64 z.k, .int .i64 z.v, .int .i64 z.w, .int .i64 z.u] 38)) wr.heap.size 38 z.cells) := ⟨Cells.new wr _ _, give_new (Nat.le_refl _)⟩
              have X1 := Aside.mk (X.it.sn (I := fun _ => False) (Sn.quiet KB.it 8) (fun x => x) (fun x => x) (fun x => x))
              go_upto_region 18 with fail
              generalize wr.alloc (.cells #[.int .i64 z.kd, .int .i64 z.k, .int .i64 z.v, .int .i64 z.w, .int .i64 z.u] 38) = W1 at CB X1 ⊢
              generalize give own wr.heap.size 8 = own1 at CB X1
              clear KB X
              generalize wr.heap.size = ob at CB ⊢
              clear g0 g1 g2 g3 g4
              have g0 : W1.cell? ⟨ob, 0, none⟩ = some (.int .i64 z.kd) := CB.it.1.cell 0
              by_cases e1 : z.kd = 1
              · have q1 : (z.kd == 1) = true := by simp [e1]
                have g1 : W1.cell? ⟨ob, 1, none⟩ = some (.int .i64 z.k) := CB.it.1.cell 1
                have g2 : W1.cell? ⟨ob, 2, none⟩ = some (.int .i64 z.v) := CB.it.1.cell 2
                have g3 : W1.cell? ⟨ob, 3, none⟩ = some (.int .i64 z.w) := CB.it.1.cell 3
                have g4 : W1.cell? ⟨ob, 4, none⟩ = some (.int .i64 z.u) := CB.it.1.cell 4
                have T1 := Aside.mk (put_i X1.it.a X1.it.og.sents zok (by omega) 5)
                go_upto_region 23 with (first | (go_at_call 28; refine T1.it.mono ?_; clear T1; rintro e w5 ⟨pa, pc, ev, own5, rfl, C5, J5, R5, S5⟩) | fail)
                clear g0 g1 g2 g3 g4
                have X5 : Aside (Bw A w own5 w5 ca cb room (putB room La z) La) := ⟨X1.it.og.sn S5.it (by decide), J5.it, X1.it.b.sn S5.it (by decide)⟩
                have CB5 := CB.it.sn S5.it (by decide)
                have g1 : w5.cell? ⟨ob, 1, none⟩ = some (.int .i64 z.k) := CB5.1.cell 1
                have g2 : w5.cell? ⟨ob, 2, none⟩ = some (.int .i64 z.v) := CB5.1.cell 2
                have g3 : w5.cell? ⟨ob, 3, none⟩ = some (.int .i64 z.w) := CB5.1.cell 3
                have g4 : w5.cell? ⟨ob, 4, none⟩ = some (.int .i64 z.u) := CB5.1.cell 4
                have T2 := Aside.mk (put_i X5.it.b X5.it.og.sents zok (by omega) 6)
                clear CB5
                go_upto_region 24 with (first | (go_at_call 28; refine T2.it.mono ?_; clear T2; rintro e w6 ⟨pb, pd, ev2, own6, rfl, C6, J6, R6, S6⟩) | fail)
                have X6 : Aside (Bw A w own6 w6 ca cb room (putB room La z) (putB room La z)) := ⟨X5.it.og.sn S6.it (by decide), X5.it.a.sn S6.it (by decide), J6.it⟩
                have SA := Aside.mk (same_ ((R5.it.1.sn S6.it (by decide)).rdI R5.it.2) (R6.it.1.rdI R6.it.2))
                rw [decide_eq_true rfl] at SA
                have hpl : (putB room La z).length ≤ La.length + 1 := by
                  unfold putB
                  have := putL_len room La z.rx
                  split <;> omega
                have CD : Aside (∀ W', Keeps Nowhere w6 W' → (Calls Tryd.prog 12 #[ev] W' fun e w' => e = .returned (.int .i64 (codN room z)) ∧ w' = W') ∧ (Calls Tryd.prog 12 #[ev2] W' fun e w' => e = .returned (.int .i64 (codN room z)) ∧ w' = W')) := ⟨fun W' k => ⟨code_of (X6.it.quiet k).og.sents C5, code_of (X6.it.quiet k).og.sents C6⟩⟩
                have es : (codN room z == codN room z) = true := by simp
                generalize codN room z = cN at CD es
                clear g1 g2 g3 g4 CB X5 X1 R5 R6 J5 J6
                generalize (gonN room La z).length = gl at *
                go_wp2_with (first
                  | (go_at_call 29; refine SA.it.mono ?_; clear SA; rintro e w7 ⟨rfl, K7⟩; have W1 := Aside.mk (CD.it _ K7.it).1; have W2 := Aside.mk (CD.it _ K7.it).2)
                  | (go_at_call_of 12 ev; refine W1.it.mono ?_; rintro e w8 ⟨rfl, rfl⟩)
                  | (go_at_call_of 12 ev2; refine W2.it.mono ?_; rintro e w8 ⟨rfl, rfl⟩)
                  | fail)
                go_roundw
                case rel => exact ⟨m + 1, own6, putB room La z, by go_num, by omega, by omega, ⟨X6.it.quiet K7.it⟩⟩
                case measure => simp [natI]; omega
              · have q1 : (z.kd == 1) = false := by simp [e1]
                by_cases e2 : z.kd = 2
                · have q2 : (z.kd == 2) = true := by simp [e2]
                  have g1 : W1.cell? ⟨ob, 1, none⟩ = some (.int .i64 z.k) := CB.it.1.cell 1
                  have g4 : W1.cell? ⟨ob, 4, none⟩ = some (.int .i64 z.u) := CB.it.1.cell 4
                  have T1 := Aside.mk (get_i X1.it.a zok.k z.u)
                  go_upto_region 28 with (first | (go_at_call 18; refine T1.it.mono ?_; clear T1; rintro e w5 ⟨rfl, J5, S5⟩) | fail)
                  clear g0 g1 g4
                  have X5 : Aside (Bw A w own1 w5 ca cb room (getL La z.k z.u) La) := ⟨X1.it.og.sn S5.it (by decide), J5.it, X1.it.b.sn S5.it (by decide)⟩
                  have CB5 := CB.it.sn S5.it (by decide)
                  have g1 : w5.cell? ⟨ob, 1, none⟩ = some (.int .i64 z.k) := CB5.1.cell 1
                  have g4 : w5.cell? ⟨ob, 4, none⟩ = some (.int .i64 z.u) := CB5.1.cell 4
                  have T2 := Aside.mk (get_i X5.it.b zok.k z.u)
                  clear CB5
                  go_upto_region 29 with (first | (go_at_call 18; refine T2.it.mono ?_; clear T2; rintro e w6 ⟨rfl, J6, S6⟩) | fail)
                  have X6 : Aside (Bw A w own1 w6 ca cb room (getL La z.k z.u) (getL La z.k z.u)) := ⟨X5.it.og.sn S6.it (by decide), X5.it.a.sn S6.it (by decide), J6.it⟩
                  have hgl := getL_len La z.k z.u
                  have es : (gotT La z.k z.u == gotT La z.k z.u) = true := by simp
                  generalize gotT La z.k z.u = gt at es ⊢
                  have ev : (gotB La z.k z.u != gotB La z.k z.u) = false := by simp
                  have ev' : (gotB La z.k z.u == gotB La z.k z.u) = true := by simp
                  generalize gotB La z.k z.u = gb at ev ev' ⊢
                  clear g1 g4 CB X5 X1 J5 J6
                  cases gb
                  · go_wp2_with fail
                    go_roundw
                    case rel => exact ⟨m + 1, own1, _, by go_num, by omega, by omega, X6⟩
                    case measure => simp [natI]; omega
                  · go_wp2_with fail
                    go_roundw
                    case rel => exact ⟨m + 1, own1, _, by go_num, by omega, by omega, X6⟩
                    case measure => simp [natI]; omega
                · have q2 : (z.kd == 2) = false := by simp [e2]
                  have g1 : W1.cell? ⟨ob, 1, none⟩ = some (.int .i64 z.k) := CB.it.1.cell 1
                  have g2 : W1.cell? ⟨ob, 2, none⟩ = some (.int .i64 z.v) := CB.it.1.cell 2
                  have g3 : W1.cell? ⟨ob, 3, none⟩ = some (.int .i64 z.w) := CB.it.1.cell 3
                  have g4 : W1.cell? ⟨ob, 4, none⟩ = some (.int .i64 z.u) := CB.it.1.cell 4
                  have T1 := Aside.mk (bw1 X1 zok (by omega))
                  go_upto_region 20 with (first | (go_at_call 25; refine T1.it.mono ?_; clear T1; rintro e w5 ⟨rfl, own5, X5, S5⟩) | fail)
                  clear g0 g1 g2 g3 g4
                  have CB5 := CB.it.sn S5.it (by decide)
                  have g0 : w5.cell? ⟨ob, 0, none⟩ = some (.int .i64 z.kd) := CB5.1.cell 0
                  have g1 : w5.cell? ⟨ob, 1, none⟩ = some (.int .i64 z.k) := CB5.1.cell 1
                  have g2 : w5.cell? ⟨ob, 2, none⟩ = some (.int .i64 z.v) := CB5.1.cell 2
                  have g3 : w5.cell? ⟨ob, 3, none⟩ = some (.int .i64 z.w) := CB5.1.cell 3
                  have g4 : w5.cell? ⟨ob, 4, none⟩ = some (.int .i64 z.u) := CB5.1.cell 4
                  have T2 := Aside.mk (bw2 X5 zok (by omega))
                  have hal := actL_len room La z
                  clear CB5 CB
                  go_wp2_with (first | (go_at_call 25; refine T2.it.mono ?_; clear T2; rintro e w6 ⟨rfl, own6, X6, S6⟩) | fail)
                  go_roundw
                  case rel => exact ⟨m + 1, own6, _, by go_num, by omega, by omega, X6⟩
                  case measure => simp [natI]; omega
            · obtain rfl : j = n2 := by omega
              have KB : Aside (Keeps Nowhere wr (wr.alloc (.cells #[.int .i64 z.kd, .int .i64 z.k, .int .i64 z.v, .int .i64 z.w, .int .i64 z.u] 38))) := ⟨(Keeps.refl _ _).alloc _⟩
              have CB : Aside (CellsO (give own wr.heap.size 8) 8 (wr.alloc (.cells #[.int .i64 z.kd, .int .i64 z.k, .int .i64 z.v, .int .i64 z.w, .int .i64 z.u] 38)) wr.heap.size 38 z.cells) := ⟨Cells.new wr _ _, give_new (Nat.le_refl _)⟩
              have X1 := Aside.mk (X.it.sn (I := fun _ => False) (Sn.quiet KB.it 8) (fun x => x) (fun x => x) (fun x => x))
              go_upto_region 18 with fail
              generalize wr.alloc (.cells #[.int .i64 z.kd, .int .i64 z.k, .int .i64 z.v, .int .i64 z.w, .int .i64 z.u] 38) = W1 at CB X1 ⊢
              generalize give own wr.heap.size 8 = own1 at CB X1
              clear KB X
              generalize wr.heap.size = ob at CB ⊢
              clear g0 g1 g2 g3 g4
              have g0 : W1.cell? ⟨ob, 0, none⟩ = some (.int .i64 z.kd) := CB.it.1.cell 0
              by_cases e1 : z.kd = 1
              · have q1 : (z.kd == 1) = true := by simp [e1]
                have g1 : W1.cell? ⟨ob, 1, none⟩ = some (.int .i64 z.k) := CB.it.1.cell 1
                have g2 : W1.cell? ⟨ob, 2, none⟩ = some (.int .i64 z.v) := CB.it.1.cell 2
                have g3 : W1.cell? ⟨ob, 3, none⟩ = some (.int .i64 z.w) := CB.it.1.cell 3
                have g4 : W1.cell? ⟨ob, 4, none⟩ = some (.int .i64 z.u) := CB.it.1.cell 4
                have T1 := Aside.mk (put_i X1.it.a X1.it.og.sents zok (by omega) 5)
                go_upto_region 23 with (first | (go_at_call 28; refine T1.it.mono ?_; clear T1; rintro e w5 ⟨pa, pc, ev, own5, rfl, C5, J5, R5, S5⟩) | fail)
                clear g0 g1 g2 g3 g4
                have X5 : Aside (Bw A w own5 w5 ca cb room (putB room La z) La) := ⟨X1.it.og.sn S5.it (by decide), J5.it, X1.it.b.sn S5.it (by decide)⟩
                have CB5 := CB.it.sn S5.it (by decide)
                have g1 : w5.cell? ⟨ob, 1, none⟩ = some (.int .i64 z.k) := CB5.1.cell 1
                have g2 : w5.cell? ⟨ob, 2, none⟩ = some (.int .i64 z.v) := CB5.1.cell 2
                have g3 : w5.cell? ⟨ob, 3, none⟩ = some (.int .i64 z.w) := CB5.1.cell 3
                have g4 : w5.cell? ⟨ob, 4, none⟩ = some (.int .i64 z.u) := CB5.1.cell 4
                have T2 := Aside.mk (put_i X5.it.b X5.it.og.sents zok (by omega) 6)
                clear CB5
                go_upto_region 24 with (first | (go_at_call 28; refine T2.it.mono ?_; clear T2; rintro e w6 ⟨pb, pd, ev2, own6, rfl, C6, J6, R6, S6⟩) | fail)
                have X6 : Aside (Bw A w own6 w6 ca cb room (putB room La z) (putB room La z)) := ⟨X5.it.og.sn S6.it (by decide), X5.it.a.sn S6.it (by decide), J6.it⟩
                have SA := Aside.mk (same_ ((R5.it.1.sn S6.it (by decide)).rdI R5.it.2) (R6.it.1.rdI R6.it.2))
                rw [decide_eq_true rfl] at SA
                have hpl : (putB room La z).length ≤ La.length + 1 := by
                  unfold putB
                  have := putL_len room La z.rx
                  split <;> omega
                have CD : Aside (∀ W', Keeps Nowhere w6 W' → (Calls Tryd.prog 12 #[ev] W' fun e w' => e = .returned (.int .i64 (codN room z)) ∧ w' = W') ∧ (Calls Tryd.prog 12 #[ev2] W' fun e w' => e = .returned (.int .i64 (codN room z)) ∧ w' = W')) := ⟨fun W' k => ⟨code_of (X6.it.quiet k).og.sents C5, code_of (X6.it.quiet k).og.sents C6⟩⟩
                have es : (codN room z == codN room z) = true := by simp
                generalize codN room z = cN at CD es
                clear g1 g2 g3 g4 CB X5 X1 R5 R6 J5 J6
                generalize (gonN room La z).length = gl at *
                go_wp2_with (first
                  | (go_at_call 29; refine SA.it.mono ?_; clear SA; rintro e w7 ⟨rfl, K7⟩; have W1 := Aside.mk (CD.it _ K7.it).1; have W2 := Aside.mk (CD.it _ K7.it).2)
                  | (go_at_call_of 12 ev; refine W1.it.mono ?_; rintro e w8 ⟨rfl, rfl⟩)
                  | (go_at_call_of 12 ev2; refine W2.it.mono ?_; rintro e w8 ⟨rfl, rfl⟩)
                  | fail)
                go_roundw
                case rel => exact ⟨m + 1, own6, putB room La z, by go_num, by omega, by omega, ⟨X6.it.quiet K7.it⟩⟩
                case measure => simp [natI]; omega
              · have q1 : (z.kd == 1) = false := by simp [e1]
                by_cases e2 : z.kd = 2
                · have q2 : (z.kd == 2) = true := by simp [e2]
                  have g1 : W1.cell? ⟨ob, 1, none⟩ = some (.int .i64 z.k) := CB.it.1.cell 1
                  have g4 : W1.cell? ⟨ob, 4, none⟩ = some (.int .i64 z.u) := CB.it.1.cell 4
                  have T1 := Aside.mk (get_i X1.it.a zok.k z.u)
                  go_upto_region 28 with (first | (go_at_call 18; refine T1.it.mono ?_; clear T1; rintro e w5 ⟨rfl, J5, S5⟩) | fail)
                  clear g0 g1 g4
                  have X5 : Aside (Bw A w own1 w5 ca cb room (getL La z.k z.u) La) := ⟨X1.it.og.sn S5.it (by decide), J5.it, X1.it.b.sn S5.it (by decide)⟩
                  have CB5 := CB.it.sn S5.it (by decide)
                  have g1 : w5.cell? ⟨ob, 1, none⟩ = some (.int .i64 z.k) := CB5.1.cell 1
                  have g4 : w5.cell? ⟨ob, 4, none⟩ = some (.int .i64 z.u) := CB5.1.cell 4
                  have T2 := Aside.mk (get_i X5.it.b zok.k z.u)
                  clear CB5
                  go_upto_region 29 with (first | (go_at_call 18; refine T2.it.mono ?_; clear T2; rintro e w6 ⟨rfl, J6, S6⟩) | fail)
                  have X6 : Aside (Bw A w own1 w6 ca cb room (getL La z.k z.u) (getL La z.k z.u)) := ⟨X5.it.og.sn S6.it (by decide), X5.it.a.sn S6.it (by decide), J6.it⟩
                  have hgl := getL_len La z.k z.u
                  have es : (gotT La z.k z.u == gotT La z.k z.u) = true := by simp
                  generalize gotT La z.k z.u = gt at es ⊢
                  have ev : (gotB La z.k z.u != gotB La z.k z.u) = false := by simp
                  have ev' : (gotB La z.k z.u == gotB La z.k z.u) = true := by simp
                  generalize gotB La z.k z.u = gb at ev ev' ⊢
                  clear g1 g4 CB X5 X1 J5 J6
                  cases gb
                  · go_wp2_with fail
                    go_roundw
                    case rel => exact ⟨m + 1, own1, _, by go_num, by omega, by omega, X6⟩
                    case measure => simp [natI]; omega
                  · go_wp2_with fail
                    go_roundw
                    case rel => exact ⟨m + 1, own1, _, by go_num, by omega, by omega, X6⟩
                    case measure => simp [natI]; omega
                · have q2 : (z.kd == 2) = false := by simp [e2]
                  have g1 : W1.cell? ⟨ob, 1, none⟩ = some (.int .i64 z.k) := CB.it.1.cell 1
                  have g2 : W1.cell? ⟨ob, 2, none⟩ = some (.int .i64 z.v) := CB.it.1.cell 2
                  have g3 : W1.cell? ⟨ob, 3, none⟩ = some (.int .i64 z.w) := CB.it.1.cell 3
                  have g4 : W1.cell? ⟨ob, 4, none⟩ = some (.int .i64 z.u) := CB.it.1.cell 4
                  have T1 := Aside.mk (bw1 X1 zok (by omega))
                  go_upto_region 20 with (first | (go_at_call 25; refine T1.it.mono ?_; clear T1; rintro e w5 ⟨rfl, own5, X5, S5⟩) | fail)
                  clear g0 g1 g2 g3 g4
                  have CB5 := CB.it.sn S5.it (by decide)
                  have g0 : w5.cell? ⟨ob, 0, none⟩ = some (.int .i64 z.kd) := CB5.1.cell 0
                  have g1 : w5.cell? ⟨ob, 1, none⟩ = some (.int .i64 z.k) := CB5.1.cell 1
                  have g2 : w5.cell? ⟨ob, 2, none⟩ = some (.int .i64 z.v) := CB5.1.cell 2
                  have g3 : w5.cell? ⟨ob, 3, none⟩ = some (.int .i64 z.w) := CB5.1.cell 3
                  have g4 : w5.cell? ⟨ob, 4, none⟩ = some (.int .i64 z.u) := CB5.1.cell 4
                  have T2 := Aside.mk (bw2 X5 zok (by omega))
                  have hal := actL_len room La z
                  clear CB5 CB
                  go_wp2_with (first | (go_at_call 25; refine T2.it.mono ?_; clear T2; rintro e w6 ⟨rfl, own6, X6, S6⟩) | fail)
                  go_roundw
                  case rel => exact ⟨m + 1, own6, _, by go_num, by omega, by omega, X6⟩
                  case measure => simp [natI]; omega
      · rcases Nat.lt_or_ge m n1 with hm5 | hm5
        · obtain rfl : m = 500 := by omega
          have j4 : ((500 : Nat) : Int) < (n1 : Int) := by omega
          have R1 := Aside.mk (keys_o X.it.a (show La.length * 8 ≤ 140737488355328 by omega) 5)
          have LK := X.it.a.lok
          have HB := Aside.mk (fun x hx => (LK.ok x hx).k)
          clear LK
          go_wp2_with (first
            | (go_at_call_of 26 (ptr ca); refine R1.it.mono ?_; clear R1; rintro e w5 ⟨va, rfl, J5, K5⟩
               obtain ⟨pa, pl, pc, rfl⟩ := owns_shapeK J5.it.1
               have X5 := Aside.mk (X.it.sn (I := fun _ => False) (Sn.quiet K5.it 5) (fun x => x) (fun x => x) (fun x => x))
               have R2 := Aside.mk (keys_o X5.it.b (show La.length * 8 ≤ 140737488355328 by omega) 6))
            | (go_at_call_of 26 (ptr cb); refine R2.it.mono ?_; clear R2; rintro e w6 ⟨vb, rfl, J6, K6⟩
               obtain ⟨pb, pm, pd, rfl⟩ := owns_shapeK J6.it.1
               have X6 := Aside.mk (X5.it.quiet K6.it)
               have SA := Aside.mk (same_ (keys_rdI (owns_later J5.it.1 K6.it (fun _ _ x => x)) HB.it) (keys_rdI J6.it.1 HB.it))
               rw [decide_eq_true rfl] at SA
               have WQ : Aside (∀ W', Keeps Nowhere w6 W' → (Calls Tryd.prog 24 #[ptr ca] W' fun e w' => e = .returned (.int .i64 (sumL La)) ∧ w' = W') ∧ (Calls Tryd.prog 24 #[ptr cb] W' fun e w' => e = .returned (.int .i64 (sumL La)) ∧ w' = W')) := ⟨fun W' k => ⟨lweight_o (X6.it.quiet k).a, lweight_o (X6.it.quiet k).b⟩⟩
               have es : (sumL La == sumL La) = true := (by simp)
               generalize sumL La = S at WQ es)
            | (go_at_call 29; refine SA.it.mono ?_; clear SA; rintro e w7 ⟨rfl, K7⟩; have W1 := Aside.mk (WQ.it _ K7.it).1; have W2 := Aside.mk (WQ.it _ K7.it).2)
            | (go_at_call_of 24 (ptr ca); refine W1.it.mono ?_; rintro e w8 ⟨rfl, rfl⟩)
            | (go_at_call_of 24 (ptr cb); refine W2.it.mono ?_; rintro e w8 ⟨rfl, rfl⟩)
            | fail)
          go_ret
          exact ⟨rfl, (X6.it.quiet K7.it).og.g.bel⟩
        · obtain rfl : m = n1 := by omega
          have R1 := Aside.mk (keys_o X.it.a (show La.length * 8 ≤ 140737488355328 by omega) 5)
          have LK := X.it.a.lok
          have HB := Aside.mk (fun x hx => (LK.ok x hx).k)
          clear LK
          go_wp2_with (first
            | (go_at_call_of 26 (ptr ca); refine R1.it.mono ?_; clear R1; rintro e w5 ⟨va, rfl, J5, K5⟩
               obtain ⟨pa, pl, pc, rfl⟩ := owns_shapeK J5.it.1
               have X5 := Aside.mk (X.it.sn (I := fun _ => False) (Sn.quiet K5.it 5) (fun x => x) (fun x => x) (fun x => x))
               have R2 := Aside.mk (keys_o X5.it.b (show La.length * 8 ≤ 140737488355328 by omega) 6))
            | (go_at_call_of 26 (ptr cb); refine R2.it.mono ?_; clear R2; rintro e w6 ⟨vb, rfl, J6, K6⟩
               obtain ⟨pb, pm, pd, rfl⟩ := owns_shapeK J6.it.1
               have X6 := Aside.mk (X5.it.quiet K6.it)
               have SA := Aside.mk (same_ (keys_rdI (owns_later J5.it.1 K6.it (fun _ _ x => x)) HB.it) (keys_rdI J6.it.1 HB.it))
               rw [decide_eq_true rfl] at SA
               have WQ : Aside (∀ W', Keeps Nowhere w6 W' → (Calls Tryd.prog 24 #[ptr ca] W' fun e w' => e = .returned (.int .i64 (sumL La)) ∧ w' = W') ∧ (Calls Tryd.prog 24 #[ptr cb] W' fun e w' => e = .returned (.int .i64 (sumL La)) ∧ w' = W')) := ⟨fun W' k => ⟨lweight_o (X6.it.quiet k).a, lweight_o (X6.it.quiet k).b⟩⟩
               have es : (sumL La == sumL La) = true := (by simp)
               generalize sumL La = S at WQ es)
            | (go_at_call 29; refine SA.it.mono ?_; clear SA; rintro e w7 ⟨rfl, K7⟩; have W1 := Aside.mk (WQ.it _ K7.it).1; have W2 := Aside.mk (WQ.it _ K7.it).2)
            | (go_at_call_of 24 (ptr ca); refine W1.it.mono ?_; rintro e w8 ⟨rfl, rfl⟩)
            | (go_at_call_of 24 (ptr cb); refine W2.it.mono ?_; rintro e w8 ⟨rfl, rfl⟩)
            | fail)
          go_ret
          exact ⟨rfl, (X6.it.quiet K7.it).og.g.bel⟩
end Go.Proofs.YtcmgmhdlokcgbaaDoor
