/-
  LruPlays
-/
import Derived.Test.YtcmgmhdlokcgbaaDoorLvF
import Derived.Deep.RegionHeld3
import Derived.Deep.Cut
namespace Go.Proofs.YtcmgmhdlokcgbaaDoor
open Go.RowKit Lulnn

variable {w w' w0 W W1 : World} {own own' o0 : Nat → Nat} {i c o j b q n rb tb : Nat} {room R k now : Int} {L L' M : List Rx} {I : Nat → Prop} {x y : Rx} {z : Oz} {v va vb cv v2 : Value} {ks ms : List Int} {nl : Bool}

set_option maxHeartbeats 4000000 in
set_option maxRecDepth 20000 in
theorem lruPlays_walk {A : Nat → Addr} (room : Int) (nn : Bool) (v1 : Value) (ys : List Oz) (w : World) (hs : Sents 170 codeVars A w) (hwf : (Lit.int .i64 room).wf = true) (h1 : Ops28Arg w v1 ys) :
    Calls Tryd.prog 3 #[.int .i64 room, .bool nn, v1] w fun e w' => e = .returned (.bool true) ∧ Below w.heap.size w w' := by
  have AW := Aside.mk (awake_ok hs)
  have hr : I6 room := lu_wf hwf
  have HS := Aside.mk hs
  clear hs hwf
  obtain ⟨L1, B1⟩ := h1
  have C1 := L1
  obtain ⟨q1, c1, rfl, hc1, hx1, _⟩ := C1
  have O1 := Aside.mk (fun i z (hi : ys[i]? = some z) => oz_at L1 hi)
  clear L1
  obtain ⟨n1, hn1⟩ : ∃ n, ys.length = n := ⟨_, rfl⟩
  have E1 := Aside.mk hn1
  rw [hn1] at B1 hc1 ⊢
  clear hn1
  have mx : maxLen ≤ 9223372036854775807 := by decide
  rcases Int.lt_or_le room 0 with hneg | hpos
  · go_enter Tryd.func3, Tryd.ntmps3
    go_upto_region 3 with (first | (go_at_call 9; refine AW.it.mono ?_; clear AW; rintro e w1 ⟨rfl, K1⟩) | fail)
    have G1 := Aside.mk ((OnG.start HS.it).quiet K1.it)
    have N1 := Aside.mk (new_neg G1.it.sents hneg)
    go_upto_region 4 with (first | (go_at_call 10; refine N1.it.mono ?_; clear N1; rintro e w2 ⟨rfl, K2⟩) | fail)
    have G2 := Aside.mk (G1.it.quiet K2.it)
    have DN := Aside.mk (dnew w2 room)
    rw [if_pos hneg, if_pos hneg] at DN
    go_upto_region 5 with (first | (go_at_call 11; refine DN.it.mono ?_; clear DN; rintro e w3 ⟨rfl, K3⟩) | fail)
    have KB : Aside (Keeps Nowhere w3 (w3.alloc (.cells #[.int .i64 0, .slice none 0 0] 31))) := ⟨(Keeps.refl _ _).alloc _⟩
    have X3 : Aside (Aw A w (give (fun _ => 0) w3.heap.size 8) (w3.alloc (.cells #[.int .i64 0, .slice none 0 0] 31)) (.pointer none) true 0 [] (.slice none 0 0) w3.heap.size) := ⟨(G2.it.quiet K3.it).sn (I := fun _ => False) (Sn.quiet KB.it 8) (fun x => x), .none, RdX.nil _ _, ⟨Cells.new w3 _ _, give_new (Nat.le_refl _)⟩⟩
    generalize give (fun _ => 0) w3.heap.size 8 = own0 at X3
    generalize w3.alloc (.cells #[.int .i64 0, .slice none 0 0] 31) = w4 at X3 ⊢
    generalize w3.heap.size = rb at X3 ⊢
    clear G1 G2 K1 K2 K3 KB
    have CD := Aside.mk (code_of X3.it.og.sents (Coded.mk 1 2 (by decide) (by decide) rfl))
    go_upto_region 7 with (first | (go_at_call 12; refine CD.it.mono ?_; clear CD; rintro e w5 ⟨rfl, rfl⟩) | fail)
    have u0 := X3.it.bx.1.cell 0
    have u1 := X3.it.bx.1.cell 1
    simp only [List.getElem?_cons_zero, List.getElem?_cons_succ] at u0 u1
    have u2 := X3.it.bx.1.frozen 0
    have u3 := X3.it.bx.1.frozen 1
    have X4 := Aside.mk (Aw.put (room := 0) (v2 := .slice none 0 0) (L2 := []) X3.it.og X3.it.c X3.it.d X3.it.bx)
    cases nn
    · go_upto_region 10 with fail
      generalize (w5.setCell ⟨rb, 0, none⟩ (.int .i64 0)).setCell ⟨rb, 1, none⟩ (.slice none 0 0) = w6 at X4 ⊢
      clear X3 u0 u1 u2 u3
      go_loopw [11] (fun iv wr => ∃ (m : Nat) (own : Nat → Nat) (L : List Rx) (qa : Option Addr) (qn qc : Nat), iv = .int .i64 m ∧ (m ≤ n1 ∧ m ≤ 2000) ∧ L.length ≤ m ∧ Aside (Aw A w own wr (.pointer none) true 0 L (.slice qa qn qc) rb)) (fun iv _ => n1 - natI iv)
      case atStart => exact ⟨0, own0, [], none, 0, 0, rfl, ⟨Nat.zero_le _, Nat.zero_le _⟩, Nat.le_refl _, X4⟩
      case round =>
        clear X4
        obtain ⟨m, own, L, qa, qn, qc, rfl, hm, hl, X⟩ := hrel
        have c0 := X.it.bx.1.cell 0
        have c1' := X.it.bx.1.cell 1
        simp only [List.getElem?_cons_zero, List.getElem?_cons_succ] at c0 c1'
        by_cases hlt : m < n1 ∧ m < 2000
        · have k1 : (m : Int) < (n1 : Int) := by omega
          have k2 : (m : Int) < 2000 := by omega
          obtain ⟨z, hz⟩ : ∃ z, ys[m]? = some z := ⟨_, List.getElem?_eq_getElem (by rw [E1.it]; exact hlt.1)⟩
          obtain ⟨b, o, rfl, op0⟩ := O1.it m z hz
          have OP := Aside.mk op0
          clear op0 hz
          have Z0 : Aside (Az A w own wr (.pointer none) true 0 L (.slice qa qn qc) (.slice qa qn qc) rb b (o + m * 5) z) := ⟨X.it.og, X.it.c, X.it.d, X.it.bx, OP.it⟩
          have Zd := Aside.mk (Z0.it.quiet (Keeps.refl _ _).drew)
          have KK : Keeps Nowhere wr ((wr.alloc (.cells #[.int .i64 0, .slice none 0 0] 31)).drew) := ((Keeps.refl _ _).alloc _).drew
          have Nd : Aside (An A w (give own wr.heap.size 7) ((wr.alloc (.cells #[.int .i64 0, .slice none 0 0] 31)).drew) (.pointer none) true 0 L (.slice qa qn qc) (.slice qa qn qc) rb b (o + m * 5) z wr.heap.size) := ⟨⟨Z0.it.sn (I := fun _ => False) (Sn.quiet KK 7) (fun x => x) (fun x => x) (fun x => x) (fun x => x), _, _, ⟨(Cells.new wr _ [.int .i64 0, .slice none 0 0]).drew, give_new (Nat.le_refl _)⟩⟩⟩
          have hl2 : L.length ≤ 2000 := by omega
          go_upto_region 12 with fail
          clear Z0 KK c0 c1' X OP
          go_cut [12, 13] from 53 to 62 (fun vn vo wx => ∃ (nb : Nat) (ra : Option Addr) (rn rc : Nat), vn = ptr nb ∧ vo = .bool true ∧ Aside (Nx28 A w (.pointer none) true 0 rb nb (nxtL true 0 L z) (.slice ra rn rc) wx))
          case first =>
            go_region_held3 (fun w' => (w'.cell? ⟨rb, 0, none⟩ = some (.int .i64 0) ∧ w'.cell? ⟨rb, 1, none⟩ = some (.slice qa qn qc)) ∧ w'.cell? ⟨b, o + m * 5, none⟩ = some (.int .i64 z.kd) ∧ w'.cell? ⟨b, o + m * 5 + 1, none⟩ = some (.int .i64 z.k) ∧ w'.cell? ⟨b, o + m * 5 + 2, none⟩ = some (.int .i64 z.v) ∧ w'.cell? ⟨b, o + m * 5 + 3, none⟩ = some (.int .i64 z.w) ∧ w'.cell? ⟨b, o + m * 5 + 4, none⟩ = some (.int .i64 z.u)) (first | with_reducible exact Az.h (by with_reducible assumption) | with_reducible exact An.h (by with_reducible assumption) | with_reducible exact Az.hA (by with_reducible assumption) | with_reducible exact An.hS (by with_reducible assumption)) (first
              | (go_at_call 13; with_reducible refine (az_step (by with_reducible assumption) hl2).mono ?_; rintro e w6 ⟨ra, rn, rc, own6, rfl, P6⟩)
              | (go_at_call 13; with_reducible refine (an_step (by with_reducible assumption) hl2).mono ?_; rintro e w7 ⟨ra, rn, rc, own6, rfl, P7⟩; obtain ⟨r0, r1, f0, f1, f2, f3⟩ := An.res P7)
              | fail)
            all_goals go_wp2_with fail
            all_goals go_meet
            all_goals first
              | exact ⟨_, ra, rn, rc, rfl, rfl, ⟨Az.made P6⟩⟩
              | exact ⟨_, ra, rn, rc, rfl, rfl, ⟨An.made P7⟩⟩
          case rest =>
          obtain ⟨nb, ra, rn, rc, rfl, rfl, NX⟩ := hcut
          obtain ⟨⟨m0, m1⟩, own2, v2, b2, q2, z2, ZZ0⟩ := NX.it
          have hnl := nxtL_len true 0 L z
          have LO := Aside.mk (looks_ ZZ0.c ZZ0.d (by omega))
          have ZA := Aside.mk ZZ0
          have MB := Aside.mk (And.intro m0 m1)
          clear ZZ0
          clear NX Zd Nd
          go_upto_region 15 with (first
            | (go_at_call 14; refine LO.it.mono ?_; clear LO; rintro e w8 ⟨rfl, K8⟩)
            | fail)
          have ZB := Aside.mk (ZA.it.quiet K8.it)
          have hbn := K8.it.block nb (World.block_lt_of_cell? wc _ m0) (fun x => x)
          have u4 : w8.cell? ⟨nb, 0, none⟩ = some (.int .i64 0) := by rw [World.cell?_of_block (w := wc) hbn]; exact m0
          have u5 : w8.cell? ⟨nb, 1, none⟩ = some (.slice ra rn rc) := by rw [World.cell?_of_block (w := wc) hbn]; exact m1
          have PW := Aside.mk (Aw.put ZB.it.og ZB.it.c ZB.it.d ZB.it.bx)
          have u0 : w8.cell? ⟨rb, 0, none⟩ = some (.int .i64 0) := by rw [ZB.it.bx.1.cell]; rfl
          have u1 : w8.cell? ⟨rb, 1, none⟩ = some v2 := by rw [ZB.it.bx.1.cell]; rfl
          have u2 := ZB.it.bx.1.frozen 0
          have u3 := ZB.it.bx.1.frozen 1
          clear m0 m1 hbn ZA ZB
          go_wp2_with fail
          go_roundw
          case rel => exact ⟨m + 1, own2, _, ra, rn, rc, by go_num, by omega, by omega, PW⟩
          case measure => simp [natI]; omega
        · have LO := Aside.mk (looks_ X.it.c X.it.d (by omega))
          rcases Nat.lt_or_ge m n1 with hm5 | hm5
          · obtain rfl : m = 2000 := by omega
            have j4 : ((2000 : Nat) : Int) < (n1 : Int) := by omega
            go_wp2_with (first | (go_at_call 14; refine LO.it.mono ?_; clear LO; rintro e w8 ⟨rfl, K8⟩) | fail)
            go_ret
            exact ⟨rfl, (X.it.og.quiet K8.it).g.bel⟩
          · obtain rfl : m = n1 := by omega
            go_wp2_with (first | (go_at_call 14; refine LO.it.mono ?_; clear LO; rintro e w8 ⟨rfl, K8⟩) | fail)
            go_ret
            exact ⟨rfl, (X.it.og.quiet K8.it).g.bel⟩
    · go_upto_region 10 with fail
      generalize (w5.setCell ⟨rb, 0, none⟩ (.int .i64 0)).setCell ⟨rb, 1, none⟩ (.slice none 0 0) = w6 at X4 ⊢
      clear X3 u0 u1 u2 u3
      go_loopw [11] (fun iv wr => ∃ (m : Nat) (own : Nat → Nat) (L : List Rx) (qa : Option Addr) (qn qc : Nat), iv = .int .i64 m ∧ (m ≤ n1 ∧ m ≤ 2000) ∧ L.length ≤ m ∧ Aside (Aw A w own wr (.pointer none) true 0 L (.slice qa qn qc) rb)) (fun iv _ => n1 - natI iv)
      case atStart => exact ⟨0, own0, [], none, 0, 0, rfl, ⟨Nat.zero_le _, Nat.zero_le _⟩, Nat.le_refl _, X4⟩
      case round =>
        clear X4
        obtain ⟨m, own, L, qa, qn, qc, rfl, hm, hl, X⟩ := hrel
        have c0 := X.it.bx.1.cell 0
        have c1' := X.it.bx.1.cell 1
        simp only [List.getElem?_cons_zero, List.getElem?_cons_succ] at c0 c1'
        by_cases hlt : m < n1 ∧ m < 2000
        · have k1 : (m : Int) < (n1 : Int) := by omega
          have k2 : (m : Int) < 2000 := by omega
          obtain ⟨z, hz⟩ : ∃ z, ys[m]? = some z := ⟨_, List.getElem?_eq_getElem (by rw [E1.it]; exact hlt.1)⟩
          obtain ⟨b, o, rfl, op0⟩ := O1.it m z hz
          have OP := Aside.mk op0
          clear op0 hz
          have Z0 : Aside (Az A w own wr (.pointer none) true 0 L (.slice qa qn qc) (.slice qa qn qc) rb b (o + m * 5) z) := ⟨X.it.og, X.it.c, X.it.d, X.it.bx, OP.it⟩
          have Zd := Aside.mk (Z0.it.quiet (Keeps.refl _ _).drew)
          have KK : Keeps Nowhere wr ((wr.alloc (.cells #[.int .i64 0, .slice none 0 0] 31)).drew) := ((Keeps.refl _ _).alloc _).drew
          have Nd : Aside (An A w (give own wr.heap.size 7) ((wr.alloc (.cells #[.int .i64 0, .slice none 0 0] 31)).drew) (.pointer none) true 0 L (.slice qa qn qc) (.slice qa qn qc) rb b (o + m * 5) z wr.heap.size) := ⟨⟨Z0.it.sn (I := fun _ => False) (Sn.quiet KK 7) (fun x => x) (fun x => x) (fun x => x) (fun x => x), _, _, ⟨(Cells.new wr _ [.int .i64 0, .slice none 0 0]).drew, give_new (Nat.le_refl _)⟩⟩⟩
          have hl2 : L.length ≤ 2000 := by omega
          go_upto_region 12 with fail
          clear Z0 KK c0 c1' X OP
          go_cut [12, 13] from 53 to 62 (fun vn vo wx => ∃ (nb : Nat) (ra : Option Addr) (rn rc : Nat), vn = ptr nb ∧ vo = .bool true ∧ Aside (Nx28 A w (.pointer none) true 0 rb nb (nxtL true 0 L z) (.slice ra rn rc) wx))
          case first =>
            go_region_held3 (fun w' => (w'.cell? ⟨rb, 0, none⟩ = some (.int .i64 0) ∧ w'.cell? ⟨rb, 1, none⟩ = some (.slice qa qn qc)) ∧ w'.cell? ⟨b, o + m * 5, none⟩ = some (.int .i64 z.kd) ∧ w'.cell? ⟨b, o + m * 5 + 1, none⟩ = some (.int .i64 z.k) ∧ w'.cell? ⟨b, o + m * 5 + 2, none⟩ = some (.int .i64 z.v) ∧ w'.cell? ⟨b, o + m * 5 + 3, none⟩ = some (.int .i64 z.w) ∧ w'.cell? ⟨b, o + m * 5 + 4, none⟩ = some (.int .i64 z.u)) (first | with_reducible exact Az.h (by with_reducible assumption) | with_reducible exact An.h (by with_reducible assumption) | with_reducible exact Az.hA (by with_reducible assumption) | with_reducible exact An.hS (by with_reducible assumption)) (first
              | (go_at_call 13; with_reducible refine (az_step (by with_reducible assumption) hl2).mono ?_; rintro e w6 ⟨ra, rn, rc, own6, rfl, P6⟩)
              | (go_at_call 13; with_reducible refine (an_step (by with_reducible assumption) hl2).mono ?_; rintro e w7 ⟨ra, rn, rc, own6, rfl, P7⟩; obtain ⟨r0, r1, f0, f1, f2, f3⟩ := An.res P7)
              | fail)
            all_goals go_wp2_with fail
            all_goals go_meet
            all_goals first
              | exact ⟨_, ra, rn, rc, rfl, rfl, ⟨Az.made P6⟩⟩
              | exact ⟨_, ra, rn, rc, rfl, rfl, ⟨An.made P7⟩⟩
          case rest =>
          obtain ⟨nb, ra, rn, rc, rfl, rfl, NX⟩ := hcut
          obtain ⟨⟨m0, m1⟩, own2, v2, b2, q2, z2, ZZ0⟩ := NX.it
          have hnl := nxtL_len true 0 L z
          have LO := Aside.mk (looks_ ZZ0.c ZZ0.d (by omega))
          have ZA := Aside.mk ZZ0
          have MB := Aside.mk (And.intro m0 m1)
          clear ZZ0
          clear NX Zd Nd
          go_upto_region 15 with (first
            | (go_at_call 14; refine LO.it.mono ?_; clear LO; rintro e w8 ⟨rfl, K8⟩)
            | fail)
          have ZB := Aside.mk (ZA.it.quiet K8.it)
          have hbn := K8.it.block nb (World.block_lt_of_cell? wc _ m0) (fun x => x)
          have u4 : w8.cell? ⟨nb, 0, none⟩ = some (.int .i64 0) := by rw [World.cell?_of_block (w := wc) hbn]; exact m0
          have u5 : w8.cell? ⟨nb, 1, none⟩ = some (.slice ra rn rc) := by rw [World.cell?_of_block (w := wc) hbn]; exact m1
          have PW := Aside.mk (Aw.put ZB.it.og ZB.it.c ZB.it.d ZB.it.bx)
          have u0 : w8.cell? ⟨rb, 0, none⟩ = some (.int .i64 0) := by rw [ZB.it.bx.1.cell]; rfl
          have u1 : w8.cell? ⟨rb, 1, none⟩ = some v2 := by rw [ZB.it.bx.1.cell]; rfl
          have u2 := ZB.it.bx.1.frozen 0
          have u3 := ZB.it.bx.1.frozen 1
          clear m0 m1 hbn ZA ZB
          go_wp2_with fail
          go_roundw
          case rel => exact ⟨m + 1, own2, _, ra, rn, rc, by go_num, by omega, by omega, PW⟩
          case measure => simp [natI]; omega
        · have LO := Aside.mk (looks_ X.it.c X.it.d (by omega))
          rcases Nat.lt_or_ge m n1 with hm5 | hm5
          · obtain rfl : m = 2000 := by omega
            have j4 : ((2000 : Nat) : Int) < (n1 : Int) := by omega
            go_wp2_with (first | (go_at_call 14; refine LO.it.mono ?_; clear LO; rintro e w8 ⟨rfl, K8⟩) | fail)
            go_ret
            exact ⟨rfl, (X.it.og.quiet K8.it).g.bel⟩
          · obtain rfl : m = n1 := by omega
            go_wp2_with (first | (go_at_call 14; refine LO.it.mono ?_; clear LO; rintro e w8 ⟨rfl, K8⟩) | fail)
            go_ret
            exact ⟨rfl, (X.it.og.quiet K8.it).g.bel⟩
  · go_enter Tryd.func3, Tryd.ntmps3
    go_upto_region 3 with (first | (go_at_call 9; refine AW.it.mono ?_; clear AW; rintro e w1 ⟨rfl, K1⟩) | fail)
    have G1 := Aside.mk ((OnG.start HS.it).quiet K1.it)
    have N1 := Aside.mk (new_pos (fun _ => 0) 1 w1 hpos hr.2)
    go_upto_region 4 with (first | (go_at_call 10; refine N1.it.mono ?_; clear N1; rintro e w2 ⟨ca, rfl, A2, K2⟩) | fail)
    have G2 := Aside.mk (G1.it.sn (I := fun _ => False) (Sn.quiet K2.it 1) (fun x => x))
    have DN := Aside.mk (dnew w2 room)
    rw [if_neg (show ¬ room < 0 by omega), if_neg (show ¬ room < 0 by omega)] at DN
    go_upto_region 5 with (first | (go_at_call 11; refine DN.it.mono ?_; clear DN; rintro e w3 ⟨rfl, K3⟩) | fail)
    have KB : Aside (Keeps Nowhere w3 (w3.alloc (.cells #[.int .i64 room, .slice none 0 0] 31))) := ⟨(Keeps.refl _ _).alloc _⟩
    have X3 : Aside (Aw A w (give (give (fun _ => 0) w1.heap.size 1) w3.heap.size 8) (w3.alloc (.cells #[.int .i64 room, .slice none 0 0] 31)) (ptr ca) false room [] (.slice none 0 0) w3.heap.size) := ⟨(G2.it.quiet K3.it).sn (I := fun _ => False) (Sn.quiet KB.it 8) (fun x => x), .some ((A2.it.quiet K3.it).sn (I := fun _ => False) (Sn.quiet KB.it 8) (fun x => x)), RdX.nil _ _, ⟨Cells.new w3 _ _, give_new (Nat.le_refl _)⟩⟩
    generalize give (give (fun _ => 0) w1.heap.size 1) w3.heap.size 8 = own0 at X3
    generalize w3.alloc (.cells #[.int .i64 room, .slice none 0 0] 31) = w4 at X3 ⊢
    generalize w3.heap.size = rb at X3 ⊢
    clear G1 G2 A2 K1 K2 K3 KB
    have CD := Aside.mk (code_of X3.it.og.sents Coded.none)
    go_upto_region 7 with (first | (go_at_call 12; refine CD.it.mono ?_; clear CD; rintro e w5 ⟨rfl, rfl⟩) | fail)
    cases nn
    · have X4 := X3
      clear X3
      go_upto_region 10 with fail
      go_loopw [11] (fun iv wr => ∃ (m : Nat) (own : Nat → Nat) (L : List Rx) (qa : Option Addr) (qn qc : Nat), iv = .int .i64 m ∧ (m ≤ n1 ∧ m ≤ 2000) ∧ L.length ≤ m ∧ Aside (Aw A w own wr (ptr ca) false room L (.slice qa qn qc) rb)) (fun iv _ => n1 - natI iv)
      case atStart => exact ⟨0, own0, [], none, 0, 0, rfl, ⟨Nat.zero_le _, Nat.zero_le _⟩, Nat.le_refl _, X4⟩
      case round =>
        clear X4
        obtain ⟨m, own, L, qa, qn, qc, rfl, hm, hl, X⟩ := hrel
        have c0 := X.it.bx.1.cell 0
        have c1' := X.it.bx.1.cell 1
        simp only [List.getElem?_cons_zero, List.getElem?_cons_succ] at c0 c1'
        by_cases hlt : m < n1 ∧ m < 2000
        · have k1 : (m : Int) < (n1 : Int) := by omega
          have k2 : (m : Int) < 2000 := by omega
          obtain ⟨z, hz⟩ : ∃ z, ys[m]? = some z := ⟨_, List.getElem?_eq_getElem (by rw [E1.it]; exact hlt.1)⟩
          obtain ⟨b, o, rfl, op0⟩ := O1.it m z hz
          have OP := Aside.mk op0
          clear op0 hz
          have Z0 : Aside (Az A w own wr (ptr ca) false room L (.slice qa qn qc) (.slice qa qn qc) rb b (o + m * 5) z) := ⟨X.it.og, X.it.c, X.it.d, X.it.bx, OP.it⟩
          have Zd := Aside.mk (Z0.it.quiet (Keeps.refl _ _).drew)
          have KK : Keeps Nowhere wr ((wr.alloc (.cells #[.int .i64 0, .slice none 0 0] 31)).drew) := ((Keeps.refl _ _).alloc _).drew
          have Nd : Aside (An A w (give own wr.heap.size 7) ((wr.alloc (.cells #[.int .i64 0, .slice none 0 0] 31)).drew) (ptr ca) false room L (.slice qa qn qc) (.slice qa qn qc) rb b (o + m * 5) z wr.heap.size) := ⟨⟨Z0.it.sn (I := fun _ => False) (Sn.quiet KK 7) (fun x => x) (fun x => x) (fun x => x) (fun x => x), _, _, ⟨(Cells.new wr _ [.int .i64 0, .slice none 0 0]).drew, give_new (Nat.le_refl _)⟩⟩⟩
          have hl2 : L.length ≤ 2000 := by omega
          go_upto_region 12 with fail
          clear Z0 KK c0 c1' X OP
          go_cut [12, 13] from 53 to 62 (fun vn vo wx => ∃ (nb : Nat) (ra : Option Addr) (rn rc : Nat), vn = ptr nb ∧ vo = .bool true ∧ Aside (Nx28 A w (ptr ca) false room rb nb (nxtL false room L z) (.slice ra rn rc) wx))
          case first =>
            go_region_held3 (fun w' => (w'.cell? ⟨rb, 0, none⟩ = some (.int .i64 room) ∧ w'.cell? ⟨rb, 1, none⟩ = some (.slice qa qn qc)) ∧ w'.cell? ⟨b, o + m * 5, none⟩ = some (.int .i64 z.kd) ∧ w'.cell? ⟨b, o + m * 5 + 1, none⟩ = some (.int .i64 z.k) ∧ w'.cell? ⟨b, o + m * 5 + 2, none⟩ = some (.int .i64 z.v) ∧ w'.cell? ⟨b, o + m * 5 + 3, none⟩ = some (.int .i64 z.w) ∧ w'.cell? ⟨b, o + m * 5 + 4, none⟩ = some (.int .i64 z.u)) (first | with_reducible exact Az.h (by with_reducible assumption) | with_reducible exact An.h (by with_reducible assumption) | with_reducible exact Az.hA (by with_reducible assumption) | with_reducible exact An.hS (by with_reducible assumption)) (first
              | (go_at_call 13; with_reducible refine (az_step (by with_reducible assumption) hl2).mono ?_; rintro e w6 ⟨ra, rn, rc, own6, rfl, P6⟩)
              | (go_at_call 13; with_reducible refine (an_step (by with_reducible assumption) hl2).mono ?_; rintro e w7 ⟨ra, rn, rc, own6, rfl, P7⟩; obtain ⟨r0, r1, f0, f1, f2, f3⟩ := An.res P7)
              | fail)
            all_goals go_wp2_with fail
            all_goals go_meet
            all_goals first
              | exact ⟨_, ra, rn, rc, rfl, rfl, ⟨Az.made P6⟩⟩
              | exact ⟨_, ra, rn, rc, rfl, rfl, ⟨An.made P7⟩⟩
          case rest =>
          obtain ⟨nb, ra, rn, rc, rfl, rfl, NX⟩ := hcut
          obtain ⟨⟨m0, m1⟩, own2, v2, b2, q2, z2, ZZ0⟩ := NX.it
          have hnl := nxtL_len false room L z
          have LO := Aside.mk (looks_ ZZ0.c ZZ0.d (by omega))
          have ZA := Aside.mk ZZ0
          have MB := Aside.mk (And.intro m0 m1)
          clear ZZ0
          clear NX Zd Nd
          go_upto_region 15 with (first
            | (go_at_call 14; refine LO.it.mono ?_; clear LO; rintro e w8 ⟨rfl, K8⟩)
            | fail)
          have ZB := Aside.mk (ZA.it.quiet K8.it)
          have hbn := K8.it.block nb (World.block_lt_of_cell? wc _ m0) (fun x => x)
          have u4 : w8.cell? ⟨nb, 0, none⟩ = some (.int .i64 room) := by rw [World.cell?_of_block (w := wc) hbn]; exact m0
          have u5 : w8.cell? ⟨nb, 1, none⟩ = some (.slice ra rn rc) := by rw [World.cell?_of_block (w := wc) hbn]; exact m1
          have PW := Aside.mk (Aw.put ZB.it.og ZB.it.c ZB.it.d ZB.it.bx)
          have u0 : w8.cell? ⟨rb, 0, none⟩ = some (.int .i64 room) := by rw [ZB.it.bx.1.cell]; rfl
          have u1 : w8.cell? ⟨rb, 1, none⟩ = some v2 := by rw [ZB.it.bx.1.cell]; rfl
          have u2 := ZB.it.bx.1.frozen 0
          have u3 := ZB.it.bx.1.frozen 1
          clear m0 m1 hbn ZA ZB
          go_wp2_with fail
          go_roundw
          case rel => exact ⟨m + 1, own2, _, ra, rn, rc, by go_num, by omega, by omega, PW⟩
          case measure => simp [natI]; omega
        · have LO := Aside.mk (looks_ X.it.c X.it.d (by omega))
          rcases Nat.lt_or_ge m n1 with hm5 | hm5
          · obtain rfl : m = 2000 := by omega
            have j4 : ((2000 : Nat) : Int) < (n1 : Int) := by omega
            go_wp2_with (first | (go_at_call 14; refine LO.it.mono ?_; clear LO; rintro e w8 ⟨rfl, K8⟩) | fail)
            go_ret
            exact ⟨rfl, (X.it.og.quiet K8.it).g.bel⟩
          · obtain rfl : m = n1 := by omega
            go_wp2_with (first | (go_at_call 14; refine LO.it.mono ?_; clear LO; rintro e w8 ⟨rfl, K8⟩) | fail)
            go_ret
            exact ⟨rfl, (X.it.og.quiet K8.it).g.bel⟩
    · have u0 := X3.it.bx.1.cell 0
      have u1 := X3.it.bx.1.cell 1
      simp only [List.getElem?_cons_zero, List.getElem?_cons_succ] at u0 u1
      have u2 := X3.it.bx.1.frozen 0
      have u3 := X3.it.bx.1.frozen 1
      have X4 := Aside.mk (Aw.put (room := 0) (v2 := .slice none 0 0) (L2 := []) (cv := .pointer none) (nl := true) X3.it.og .none (RdX.nil _ _) X3.it.bx)
      go_upto_region 10 with fail
      generalize (w5.setCell ⟨rb, 0, none⟩ (.int .i64 0)).setCell ⟨rb, 1, none⟩ (.slice none 0 0) = w6 at X4 ⊢
      clear X3 u0 u1 u2 u3
      go_loopw [11] (fun iv wr => ∃ (m : Nat) (own : Nat → Nat) (L : List Rx) (qa : Option Addr) (qn qc : Nat), iv = .int .i64 m ∧ (m ≤ n1 ∧ m ≤ 2000) ∧ L.length ≤ m ∧ Aside (Aw A w own wr (.pointer none) true 0 L (.slice qa qn qc) rb)) (fun iv _ => n1 - natI iv)
      case atStart => exact ⟨0, own0, [], none, 0, 0, rfl, ⟨Nat.zero_le _, Nat.zero_le _⟩, Nat.le_refl _, X4⟩
      case round =>
        clear X4
        obtain ⟨m, own, L, qa, qn, qc, rfl, hm, hl, X⟩ := hrel
        have c0 := X.it.bx.1.cell 0
        have c1' := X.it.bx.1.cell 1
        simp only [List.getElem?_cons_zero, List.getElem?_cons_succ] at c0 c1'
        by_cases hlt : m < n1 ∧ m < 2000
        · have k1 : (m : Int) < (n1 : Int) := by omega
          have k2 : (m : Int) < 2000 := by omega
          obtain ⟨z, hz⟩ : ∃ z, ys[m]? = some z := ⟨_, List.getElem?_eq_getElem (by rw [E1.it]; exact hlt.1)⟩
          obtain ⟨b, o, rfl, op0⟩ := O1.it m z hz
          have OP := Aside.mk op0
          clear op0 hz
          have Z0 : Aside (Az A w own wr (.pointer none) true 0 L (.slice qa qn qc) (.slice qa qn qc) rb b (o + m * 5) z) := ⟨X.it.og, X.it.c, X.it.d, X.it.bx, OP.it⟩
          have Zd := Aside.mk (Z0.it.quiet (Keeps.refl _ _).drew)
          have KK : Keeps Nowhere wr ((wr.alloc (.cells #[.int .i64 0, .slice none 0 0] 31)).drew) := ((Keeps.refl _ _).alloc _).drew
          have Nd : Aside (An A w (give own wr.heap.size 7) ((wr.alloc (.cells #[.int .i64 0, .slice none 0 0] 31)).drew) (.pointer none) true 0 L (.slice qa qn qc) (.slice qa qn qc) rb b (o + m * 5) z wr.heap.size) := ⟨⟨Z0.it.sn (I := fun _ => False) (Sn.quiet KK 7) (fun x => x) (fun x => x) (fun x => x) (fun x => x), _, _, ⟨(Cells.new wr _ [.int .i64 0, .slice none 0 0]).drew, give_new (Nat.le_refl _)⟩⟩⟩
          have hl2 : L.length ≤ 2000 := by omega
          go_upto_region 12 with fail
          clear Z0 KK c0 c1' X OP
          go_cut [12, 13] from 53 to 62 (fun vn vo wx => ∃ (nb : Nat) (ra : Option Addr) (rn rc : Nat), vn = ptr nb ∧ vo = .bool true ∧ Aside (Nx28 A w (.pointer none) true 0 rb nb (nxtL true 0 L z) (.slice ra rn rc) wx))
          case first =>
            go_region_held3 (fun w' => (w'.cell? ⟨rb, 0, none⟩ = some (.int .i64 0) ∧ w'.cell? ⟨rb, 1, none⟩ = some (.slice qa qn qc)) ∧ w'.cell? ⟨b, o + m * 5, none⟩ = some (.int .i64 z.kd) ∧ w'.cell? ⟨b, o + m * 5 + 1, none⟩ = some (.int .i64 z.k) ∧ w'.cell? ⟨b, o + m * 5 + 2, none⟩ = some (.int .i64 z.v) ∧ w'.cell? ⟨b, o + m * 5 + 3, none⟩ = some (.int .i64 z.w) ∧ w'.cell? ⟨b, o + m * 5 + 4, none⟩ = some (.int .i64 z.u)) (first | with_reducible exact Az.h (by with_reducible assumption) | with_reducible exact An.h (by with_reducible assumption) | with_reducible exact Az.hA (by with_reducible assumption) | with_reducible exact An.hS (by with_reducible assumption)) (first
              | (go_at_call 13; with_reducible refine (az_step (by with_reducible assumption) hl2).mono ?_; rintro e w6 ⟨ra, rn, rc, own6, rfl, P6⟩)
              | (go_at_call 13; with_reducible refine (an_step (by with_reducible assumption) hl2).mono ?_; rintro e w7 ⟨ra, rn, rc, own6, rfl, P7⟩; obtain ⟨r0, r1, f0, f1, f2, f3⟩ := An.res P7)
              | fail)
            all_goals go_wp2_with fail
            all_goals go_meet
            all_goals first
              | exact ⟨_, ra, rn, rc, rfl, rfl, ⟨Az.made P6⟩⟩
              | exact ⟨_, ra, rn, rc, rfl, rfl, ⟨An.made P7⟩⟩
          case rest =>
          obtain ⟨nb, ra, rn, rc, rfl, rfl, NX⟩ := hcut
          obtain ⟨⟨m0, m1⟩, own2, v2, b2, q2, z2, ZZ0⟩ := NX.it
          have hnl := nxtL_len true 0 L z
          have LO := Aside.mk (looks_ ZZ0.c ZZ0.d (by omega))
          have ZA := Aside.mk ZZ0
          have MB := Aside.mk (And.intro m0 m1)
          clear ZZ0
          clear NX Zd Nd
          go_upto_region 15 with (first
            | (go_at_call 14; refine LO.it.mono ?_; clear LO; rintro e w8 ⟨rfl, K8⟩)
            | fail)
          have ZB := Aside.mk (ZA.it.quiet K8.it)
          have hbn := K8.it.block nb (World.block_lt_of_cell? wc _ m0) (fun x => x)
          have u4 : w8.cell? ⟨nb, 0, none⟩ = some (.int .i64 0) := by rw [World.cell?_of_block (w := wc) hbn]; exact m0
          have u5 : w8.cell? ⟨nb, 1, none⟩ = some (.slice ra rn rc) := by rw [World.cell?_of_block (w := wc) hbn]; exact m1
          have PW := Aside.mk (Aw.put ZB.it.og ZB.it.c ZB.it.d ZB.it.bx)
          have u0 : w8.cell? ⟨rb, 0, none⟩ = some (.int .i64 0) := by rw [ZB.it.bx.1.cell]; rfl
          have u1 : w8.cell? ⟨rb, 1, none⟩ = some v2 := by rw [ZB.it.bx.1.cell]; rfl
          have u2 := ZB.it.bx.1.frozen 0
          have u3 := ZB.it.bx.1.frozen 1
          clear m0 m1 hbn ZA ZB
          go_wp2_with fail
          go_roundw
          case rel => exact ⟨m + 1, own2, _, ra, rn, rc, by go_num, by omega, by omega, PW⟩
          case measure => simp [natI]; omega
        · have LO := Aside.mk (looks_ X.it.c X.it.d (by omega))
          rcases Nat.lt_or_ge m n1 with hm5 | hm5
          · obtain rfl : m = 2000 := by omega
            have j4 : ((2000 : Nat) : Int) < (n1 : Int) := by omega
            go_wp2_with (first | (go_at_call 14; refine LO.it.mono ?_; clear LO; rintro e w8 ⟨rfl, K8⟩) | fail)
            go_ret
            exact ⟨rfl, (X.it.og.quiet K8.it).g.bel⟩
          · obtain rfl : m = n1 := by omega
            go_wp2_with (first | (go_at_call 14; refine LO.it.mono ?_; clear LO; rintro e w8 ⟨rfl, K8⟩) | fail)
            go_ret
            exact ⟨rfl, (X.it.og.quiet K8.it).g.bel⟩
end Go.Proofs.YtcmgmhdlokcgbaaDoor
