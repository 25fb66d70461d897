/-
  culvertlaw16.BacklogOwn
-/
import Derived.Test.YtolmiecbgkdlfaaDoorBkX
namespace Go.Proofs.YtolmiecbgkdlfaaDoor
open Go.RowKit

variable {A : Nat → Addr} {w w' W w0 : World} {own own' : Nat → Nat} {i p pc n : Nat} {L xs : List Nat} {v v' : Value} {I : Nat → Prop}

/-- a row of numbers that is i's -/
structure RowN (own : Nat → Nat) (i : Nat) (w : World) (v : Value) (n : Nat) (xs : List Nat) : Prop where
  r : w.ownsRow 0 34 1 v n (xs.map e32)
  o : ∀ b, v.ownBlock = some b → own b = i
theorem RowN.sn (h : RowN own i w v n xs) (s : Sn I own w own' w') (hi : ¬ I i) : RowN own' i w' v n xs :=
  ⟨owns_later h.r s.keeps (fun b hb e => hi (by rw [← h.o b hb]; exact e)), fun b hb => (s.agree b (owns_lt h.r b hb)).trans (h.o b hb)⟩
theorem RowN.len (h : RowN own i w v n xs) : xs.length = n := by have := h.r.1; rw [List.length_map] at this; omega
theorem RowN.reads (h : RowN own i w v n xs) : ReadsK 1 w v xs.length (xs.map e32) := by
  have := owns_readsK h.r
  rw [h.len]
  exact this
theorem RowN.made {base : Nat} (h : w'.ownsRow base 34 1 v n (xs.map e32)) (hb : w.heap.size ≤ base) : RowN (give own w.heap.size i) i w' v n xs :=
  ⟨owns_any h, fun b hb' => give_new (Nat.le_trans hb (owns_base h b hb'))⟩
/-- one number more, behind a box that was laid for it -/
theorem RowN.more {o : Obj} {x : Nat} (h : RowN own i w v n xs) (O : w'.ownsRow 0 34 1 v' (n + 1) (xs.map e32 ++ [e32 x])) (K : Keeps (fun b => v.ownBlock = some b) (w.alloc o) w') (B : ∀ b, v'.ownBlock = some b → v.ownBlock = some b ∨ (w.alloc o).heap.size ≤ b) :
    RowN (give own w.heap.size i) i w' v' (n + 1) (xs ++ [x]) ∧ Sn (fun k => k = i) own w (give own w.heap.size i) w' := by
  refine ⟨⟨by rw [List.map_append]; exact O, fun b hb => ?_⟩, ⟨fun k hk => give_old hk, (((Keeps.refl _ _).alloc o).trans (K.mono (fun k e _ => h.o k e)))⟩⟩
  rcases B b hb with e | e
  · exact (give_old (owns_lt h.r b e)).trans (h.o b e)
  · exact give_new (by rw [World.size_alloc] at e; omega)

/-- two Backlogs -/
structure Bo (A : Nat → Addr) (w0 : World) (own : Nat → Nat) (W : World) (p pc : Nat) (L : List Nat) : Prop where
  g : OnG A w0 own W
  b : BkO own 1 W p 1024 L
  c : BkO own 2 W pc 1024 []
theorem Bo.sn (h : Bo A w0 own W p pc L) (s : Sn I own W own' w') (h0 : ¬ I 0) (h1 : ¬ I 1) (h2 : ¬ I 2) : Bo A w0 own' w' p pc L := ⟨h.g.sn s h0, h.b.sn s h1, h.c.sn s h2⟩
theorem Bo.quiet (h : Bo A w0 own W p pc L) (hk : Keeps Nowhere W w') : Bo A w0 own w' p pc L := h.sn (I := fun _ => False) (Sn.same hk) (fun x => x) (fun x => x) (fun x => x)
theorem Bo.bel (h : Bo A w0 own W p pc L) : Keeps Nowhere w0 W := Keeps.ofBelow h.g.g.bel
/-- and the three lists: x (owner 3), y (owner 4), want (owner 5) -/
structure Bl (A : Nat → Addr) (w0 : World) (own : Nat → Nat) (W : World) (p pc : Nat) (L : List Nat) (n : Nat) (x : Value) (mx : Nat) (X : List Nat) (y : Value) (my : Nat) (Y : List Nat) (v : Value) : Prop where
  o : Bo A w0 own W p pc L
  x : RowN own 3 W x mx X
  y : RowN own 4 W y my Y
  v : RowN own 5 W v n L
theorem Bl.quiet {x y : Value} {mx my : Nat} {X Y : List Nat} (h : Bl A w0 own W p pc L n x mx X y my Y v) (hk : Keeps Nowhere W w') : Bl A w0 own w' p pc L n x mx X y my Y v :=
  have s : Sn (fun _ => False) own W own w' := Sn.same hk
  ⟨h.o.sn s (fun x => x) (fun x => x) (fun x => x), h.x.sn s (fun x => x), h.y.sn s (fun x => x), h.v.sn s (fun x => x)⟩
/-- x's step -/
theorem Bl.byX {x y x' : Value} {mx my mx' : Nat} {X Y X' : List Nat} (h : Bl A w0 own W p pc L n x mx X y my Y v) (hx : RowN own' 3 w' x' mx' X') (s : Sn (fun k => k = 3) own W own' w') : Bl A w0 own' w' p pc L n x' mx' X' y my Y v :=
  ⟨h.o.sn s (by decide) (by decide) (by decide), hx, h.y.sn s (by decide), h.v.sn s (by decide)⟩
theorem Bl.byY {x y y' : Value} {mx my my' : Nat} {X Y Y' : List Nat} (h : Bl A w0 own W p pc L n x mx X y my Y v) (hy : RowN own' 4 w' y' my' Y') (s : Sn (fun k => k = 4) own W own' w') : Bl A w0 own' w' p pc L n x mx X y' my' Y' v :=
  ⟨h.o.sn s (by decide) (by decide) (by decide), h.x.sn s (by decide), hy, h.v.sn s (by decide)⟩
/-- one number of x is written over -/
theorem RowN.put {g l c j k : Nat} (h : RowN own i w (.slice (some ⟨g, 0, none⟩) l c) n xs) (hj : j < n) : RowN own i (w.setCell ⟨g, j, none⟩ (.int .u32 (k : Nat))) (.slice (some ⟨g, 0, none⟩) l c) n (xs.set j k) ∧ Sn (fun q => q = i) own w own (w.setCell ⟨g, j, none⟩ (.int .u32 (k : Nat))) := by
  refine ⟨⟨?_, h.o⟩, ⟨fun _ _ => rfl, (Keeps.refl _ _).setCell _ _ (fun _ => h.o g rfl)⟩⟩
  have := owns_setCell h.r j (by omega) (.int .u32 (k : Nat))
  rw [List.map_set]
  exact this
theorem RowN.shape (h : RowN own i w v n xs) : (v = .slice none 0 0 ∧ n = 0) ∨ ∃ g c, v = .slice (some ⟨g, 0, none⟩) n c ∧ n ≤ c := by
  rcases h.r.2 with ⟨h1, h2⟩ | ⟨g, cap, cur, h1, _, _, h2, _⟩
  · exact .inl ⟨h1, h2⟩
  · exact .inr ⟨g, cap, h1, h2⟩
theorem RowN.cell {g c j x : Nat} (h : RowN own i w (.slice (some ⟨g, 0, none⟩) n c) n xs) (hx : xs[j]? = some x) : w.cell? ⟨g, j, none⟩ = some (.int .u32 (x : Nat)) := by
  have := h.r.cells rfl j (e32 x) (by rw [List.getElem?_map, hx]; rfl)
  rwa [add_none, Nat.zero_add] at this

set_option maxRecDepth 20000 in
set_option maxHeartbeats 8000000 in
theorem backlogOwn_walk {A : Nat → Addr} (s1 : Value) (ids : List Nat) (w : World) (hs : Sents 92 codeVars A w) (h1 : U32sArg w s1 ids) :
    Calls Tryd.prog 5 #[s1] w fun e w' => e = .returned (.bool true) ∧ Below w.heap.size w w' := by
  have hb1 := h1.2
  obtain ⟨pa, ca, rfl, hla, hca⟩ := RdA.of h1
  obtain ⟨N, hN⟩ : ∃ N, ids.length = N := ⟨_, rfl⟩
  have HN := Aside.mk hN
  rw [hN] at hla hb1 ⊢
  have CA := Aside.mk hca
  have WK := Aside.mk (awake16 hs)
  have HS := Aside.mk hs
  have hNm : (N : Int) ≤ 9223372036854775806 := by omega
  clear hs hN hca h1
  go_enter Tryd.func5, Tryd.ntmps5
  go_upto_region 4 with (first | (go_at_call 6; refine WK.it.mono ?_; rintro e w1 ⟨rfl, K1⟩) | fail)
  clear WK
  have NW := Aside.mk (bnew_ok 1024 (by decide) (by decide) w1 (fun _ => 0) 1)
  go_upto_region 5 with (first | (go_at_call 7; refine NW.it.mono ?_; clear NW; rintro e w2 ⟨p, rfl, T2, _, K2⟩) | fail)
  have NW := Aside.mk (bnew_ok 1024 (by decide) (by decide) w2 (give (fun _ => 0) w1.heap.size 1) 2)
  go_upto_region 6 with (first | (go_at_call 7; refine NW.it.mono ?_; clear NW; rintro e w3 ⟨pc, rfl, T3, _, K3⟩) | fail)
  obtain ⟨own3, B3⟩ : ∃ own3, Aside (Bo A w own3 w3 p pc []) := ⟨_, ⟨(((OnG.start HS.it).sn (I := fun _ => False) (Sn.same K1.it) (fun x => x)).sn (I := fun _ => False) (Sn.quiet K2.it 1) (fun x => x)).sn (I := fun _ => False) (Sn.quiet K3.it 2) (fun x => x), T2.it.step K3.it 2, T3.it⟩⟩
  clear T2 T3
  go_upto_region 9 with fail
  go_loopw [8] (fun iv wr => ∃ (j : Nat) (L : List Nat) (own : Nat → Nat), iv = .int .i64 j ∧ j ≤ N ∧ Aside (Bo A w own wr p pc L)) (fun iv _ => N - natOf iv)
  case atStart => exact ⟨0, [], own3, rfl, Nat.zero_le _, B3⟩
  case round =>
    clear B3
    obtain ⟨j, L, own, rfl, hj, B⟩ := hrel
    have hll := B.it.b.len
    rcases Nat.eq_or_lt_of_le hj with rfl | hlt
    · clear CA
      have BL := Aside.mk (blist B.it.b)
      go_upto_region 15 with (first
        | (go_at_call 14; refine BL2.it.mono ?_; clear BL2; rintro e w5 ⟨vy, rfl, O5, K5⟩)
        | (go_at_call 14; refine BL.it.mono ?_; clear BL; rintro e w4 ⟨vx, rfl, O4, K4⟩; have BL2 := Aside.mk (blist (B.it.quiet K4.it).b))
        | fail)
      obtain ⟨n, hn⟩ : ∃ n, L.length = n := ⟨_, rfl⟩
      have HL := Aside.mk hn
      obtain ⟨own5, B5, X5, Y5⟩ : ∃ own5, Aside (Bo A w own5 w5 p pc L) ∧ Aside (RowN own5 3 w5 vx n L) ∧ Aside (RowN own5 4 w5 vy n L) := by
        have s4 : Sn (fun _ => False) own wr (give own wr.heap.size 3) w4 := Sn.quiet K4.it 3
        have s5 : Sn (fun _ => False) (give own wr.heap.size 3) w4 (give (give own wr.heap.size 3) w4.heap.size 4) w5 := Sn.quiet K5.it 4
        have x4 : RowN (give own wr.heap.size 3) 3 w4 vx L.length L := RowN.made O4.it (Nat.le_refl _)
        have y5 : RowN (give (give own wr.heap.size 3) w4.heap.size 4) 4 w5 vy L.length L := RowN.made O5.it (Nat.le_refl _)
        rw [hn] at x4 y5
        exact ⟨_, ⟨(B.it.sn s4 (fun x => x) (fun x => x) (fun x => x)).sn s5 (fun x => x) (fun x => x) (fun x => x)⟩, ⟨x4.sn s5 (fun x => x)⟩, ⟨y5⟩⟩
      have LN := Aside.mk (blen B5.it.b)
      rw [hn] at LN hll
      clear O4 O5 hn B K4 K5
      go_upto_region 16 with (first | (go_at_call 15; refine LN.it.mono ?_; clear LN; rintro e w6 ⟨rfl, K6⟩) | fail)
      have RX := Aside.mk (show ReadsK 1 (w6.alloc (.cells #[] 34)) vx n (L.map e32) from owns_readsK (X5.it.sn (I := fun _ => False) (Sn.same (K6.it.alloc (.cells #[] 34))) (fun x => x)).r)
      obtain ⟨xa, xl, xc, rfl⟩ := owns_shapeK X5.it.r
      obtain ⟨ya, yl, yc, rfl⟩ := owns_shapeK Y5.it.r
      go_upto_region 17 with (first
        | (at_builtin; refine wpList_appendR rfl (.tmp 81) (.tmp 82) 29 rfl 34 (.int .u32 0) 1 4 Tryd.underlying29 u32info rfl (by decide) (w6.alloc (.cells #[] 34)) (Keeps.refl _ _) w6.heap.size _ _ _ (owns_empty w6 34) _ n (L.map e32) RX.it (one32 _) (by omega) (by unfold maxLen; omega) (by rw [World.size_alloc]; omega) rfl rfl ?_; intro v7 w7 O7 K7 B7)
        | fail)
      have K67 : Keeps Nowhere w6 w7 := ((Keeps.refl _ _).alloc _).next K7.it (fun b e hlt => by simp only [Value.ownBlock, Option.some.injEq] at e; omega)
      have o7 := O7.it
      rw [Nat.zero_add, List.nil_append] at o7
      obtain ⟨own7, J7⟩ : ∃ own7, Aside (Bl A w own7 w7 p pc L n (.slice xa xl xc) n L (.slice ya yl yc) n L v7) := by
        have s7 : Sn (fun _ => False) own5 w5 (give own5 w6.heap.size 5) w7 := ⟨fun k hk => give_old (Nat.lt_of_lt_of_le hk K6.it.size), (K6.it.trans K67).any⟩
        exact ⟨_, ⟨B5.it.sn s7 (fun x => x) (fun x => x) (fun x => x), X5.it.sn s7 (fun x => x), Y5.it.sn s7 (fun x => x), RowN.made o7 (Nat.le_refl _)⟩⟩
      obtain ⟨va, vl, vc, rfl⟩ := owns_shapeK o7
      clear K67 o7 O7 K7 B7 RX X5 Y5 B5
      have SM := Aside.mk (same_nums _ _ L J7.it.x.reads J7.it.y.reads)
      have exl : xl = n := by
        rcases J7.it.x.shape with ⟨h, h'⟩ | ⟨g, c, h, _⟩
        · cases h; exact h'.symm
        · cases h; rfl
      have eyl : yl = n := by
        rcases J7.it.y.shape with ⟨h, h'⟩ | ⟨g, c, h, _⟩
        · cases h; exact h'.symm
        · cases h; rfl
      subst exl eyl
      have enn : ((yl : Int) != yl) = false := by simp
      go_upto_region 20 with (first | (go_at_call 20; refine SM.it.mono ?_; clear SM; rintro e w8 ⟨rfl, K8⟩) | fail)
      have J8 := Aside.mk (J7.it.quiet K8.it)
      clear J7
      go_loopw [13] (fun iv wr => ∃ (j : Nat) (X : List Nat) (own : Nat → Nat), iv = .int .i64 j ∧ j ≤ yl ∧ Aside (Bl A w own wr p pc L yl (.slice xa yl xc) yl X (.slice ya yl yc) yl L (.slice va vl vc))) (fun iv _ => yl - natOf iv)
      case atStart => exact ⟨0, L, own7, rfl, Nat.zero_le _, J8⟩
      case round =>
        clear J8
        obtain ⟨j2, X, own8, rfl, hj2, J⟩ := hrel
        rcases Nat.eq_or_lt_of_le hj2 with rfl | hlt
        · have SM := Aside.mk (same_nums _ _ L J.it.y.reads J.it.v.reads)
          go_upto_region 27 with (first | (go_at_call 20; refine SM.it.mono ?_; clear SM; rintro e w9 ⟨rfl, K9⟩) | fail)
          have J9 := Aside.mk (J.it.quiet K9.it)
          clear J
          go_loopw [14, 15] (fun gv iv wr => ∃ (j : Nat) (own : Nat → Nat), iv = .int .i64 j ∧ j ≤ 40 ∧ Aside (Bl A w own wr p pc L j2 gv (j2 + j) (X ++ (List.range j).map (fun k => 4100000000 + k)) (.slice ya j2 yc) j2 L (.slice va vl vc))) (fun _ iv _ => 40 - natOf iv)
          case atStart => exact ⟨0, own8, rfl, Nat.zero_le _, by simpa using J9⟩
          case round =>
            clear J9
            obtain ⟨j3, own9, rfl, hj3, J⟩ := hrel
            rcases Nat.eq_or_lt_of_le hj3 with rfl | hlt
            · rw [show (((40 : Nat) : Int)) = (40 : Int) from rfl]
              obtain ⟨X2, hX2⟩ : ∃ X2, X ++ (List.range 40).map (fun k => 4100000000 + k) = X2 := ⟨_, rfl⟩
              have HX2 : Aside (∀ k, k < 40 → X2[j2 + k]? = some (4100000000 + k)) := ⟨fun k hk => by
                have hl2 := J.it.x.len
                rw [List.length_append, List.length_map, List.length_range] at hl2
                rw [← hX2, List.getElem?_append_right (by omega), show j2 + k - X.length = k by omega, List.getElem?_map, List.getElem?_range hk]
                rfl⟩
              rw [hX2] at J
              clear hX2
              go_upto_region 32 with fail
              go_loopw [16, 17] (fun gv iv wr => ∃ (j : Nat) (own : Nat → Nat), iv = .int .i64 j ∧ j ≤ 40 ∧ Aside (Bl A w own wr p pc L j2 u14 (j2 + 40) X2 gv (j2 + j) (L ++ (List.range j).map (fun k => 4200000000 + k)) (.slice va vl vc))) (fun _ iv _ => 40 - natOf iv)
              case atStart => exact ⟨0, own9, rfl, Nat.zero_le _, by simpa using J⟩
              case round =>
                clear J
                obtain ⟨j4, own10, rfl, hj4, J⟩ := hrel
                rcases Nat.eq_or_lt_of_le hj4 with rfl | hlt
                · rw [show (((40 : Nat) : Int)) = (40 : Int) from rfl]
                  obtain ⟨Y2, hY2⟩ : ∃ Y2, L ++ (List.range 40).map (fun k => 4200000000 + k) = Y2 := ⟨_, rfl⟩
                  have HY2 : Aside (∀ k, k < 40 → Y2[j2 + k]? = some (4200000000 + k)) := ⟨fun k hk => by
                    have hl2 := HL.it
                    rw [← hY2, List.getElem?_append_right (by omega), show j2 + k - L.length = k by omega, List.getElem?_map, List.getElem?_range hk]
                    rfl⟩
                  rw [hY2] at J
                  clear hY2
                  rcases J.it.x.shape with ⟨_, h0⟩ | ⟨g1, c1, hg1, hgc1⟩
                  · omega
                  rcases J.it.y.shape with ⟨_, h0⟩ | ⟨g2, c2, hg2, hgc2⟩
                  · omega
                  subst hg1 hg2
                  have J0 := Aside.mk J.it
                  go_upto_region 36 with fail
                  go_loopw [18] (fun iv wq => ∃ (j : Nat), iv = .int .i64 j ∧ j ≤ 40 ∧ wq = wr) (fun iv _ => 40 - natOf iv)
                  case atStart => exact ⟨0, rfl, Nat.zero_le _, rfl⟩
                  case round =>
                    obtain ⟨j5, rfl, hj5, hwq⟩ := hrel
                    subst hwq
                    rcases Nat.eq_or_lt_of_le hj5 with rfl | hlt
                    · rw [show (((40 : Nat) : Int)) = (40 : Int) from rfl]
                      have T1 := Aside.mk (btake_nil wr)
                      go_upto_region 41 with (first | (go_at_call 17; refine T1.it.mono ?_; clear T1; rintro e w20 ⟨rfl, K20⟩) | fail)
                      have T2 := Aside.mk (bhead_nil w20)
                      go_upto_region 42 with (first | (go_at_call 16; refine T2.it.mono ?_; clear T2; rintro e w21 ⟨rfl, K21⟩) | fail)
                      have J1 := Aside.mk ((J0.it.quiet K20.it).quiet K21.it)
                      have BL := Aside.mk (blist J1.it.o.b)
                      rw [HL.it] at BL
                      clear J J0 HX2 HY2
                      go_wp2_with (first
                        | (go_at_call 14; refine (blist_nil w26).mono ?_; rintro e w27 ⟨vz, rfl, O27, K27⟩; obtain ⟨za, zl, zc, rfl⟩ := owns_shapeK O27.it; have ezl : zl = 0 := (by rcases O27.it.2 with ⟨h, _⟩ | ⟨_, _, _, h, _⟩ <;> cases h <;> rfl); subst ezl)
                        | (go_at_call 18; refine (bclear_nil w25).mono ?_; rintro e w26 ⟨rfl, K26⟩)
                        | (go_at_call 15; refine (blen_nil w24).mono ?_; rintro e w25 ⟨rfl, K25⟩)
                        | (go_at_call 15; refine LN.it.mono ?_; clear LN; rintro e w24 ⟨rfl, K24⟩)
                        | (go_at_call 20; refine SM.it.mono ?_; clear SM; rintro e w23 ⟨rfl, K23⟩; have J3 := Aside.mk (J2.it.quiet K23.it); have LN := Aside.mk (blen J3.it.o.c))
                        | (go_at_call 14; refine BL.it.mono ?_; clear BL; rintro e w22 ⟨vz, rfl, O22, K22⟩; have J2 := Aside.mk (J1.it.quiet K22.it); have SM := Aside.mk (same_nums _ _ L (by have := owns_readsK O22.it; rw [HL.it]; exact this) J2.it.v.reads))
                        | fail)
                      go_ret
                      exact ⟨rfl, ((((J3.it.o.bel.trans K24.it).trans K25.it).trans K26.it).trans K27.it).bel⟩
                    · have hlt' : (j5 : Int) < 40 := by omega
                      have ew : IntKind.u32.wrap (j5 : Int) = j5 := by rw [IntKind.wrap_u32]; omega
                      have ew2 : IntKind.u32.wrap (4200000000 + (j5 : Int)) = ((4200000000 + j5 : Nat) : Int) := by rw [IntKind.wrap_u32]; omega
                      have ew1 : IntKind.u32.wrap (4100000000 + (j5 : Int)) = ((4100000000 + j5 : Nat) : Int) := by rw [IntKind.wrap_u32]; omega
                      have x1 := J0.it.x.cell (HX2.it j5 hlt)
                      have x2 := J0.it.y.cell (HY2.it j5 hlt)
                      have l1 : (j2 : Int) + j5 < (j2 : Int) + 40 := by omega
                      have l2 : (0 : Int) ≤ (j2 : Int) + j5 := by omega
                      have l3 : (j2 : Int) + j5 ≤ 9223372036854775807 := by omega
                      have ee1 : (((4100000000 + j5 : Nat) : Int) != ((4100000000 + j5 : Nat) : Int)) = false := by simp
                      have ee2 : (((4200000000 + j5 : Nat) : Int) != ((4200000000 + j5 : Nat) : Int)) = false := by simp
                      go_wp2_with fail
                      go_roundw
                      case rel => exact ⟨j5 + 1, by go_num, by omega, by trivial⟩
                      case measure => simp [natOf]; omega
                · have hlt' : (j4 : Int) < 40 := by omega
                  have ew : IntKind.u32.wrap (j4 : Int) = j4 := by rw [IntKind.wrap_u32]; omega
                  have ew2 : IntKind.u32.wrap (4200000000 + (j4 : Int)) = ((4200000000 + j4 : Nat) : Int) := by rw [IntKind.wrap_u32]; omega
                  go_wp2_with (at_builtin; refine wpList_appendR rfl (.tmp 125) (.tmp 129) 29 rfl 34 (.int .u32 0) 1 4 Tryd.underlying29 u32info rfl (by decide) wr ((Keeps.refl _ _).alloc _) 0 _ _ _ J.it.y.r _ 1 [e32 (4200000000 + j4)] (readsK_new _ _ _) (fun x hx => by rw [List.mem_singleton.1 hx]; rfl) (by omega) (by unfold maxLen; omega) (Nat.zero_le _) rfl rfl ?_; intro v' w' O' K' B')
                  obtain ⟨p1, p2⟩ := J.it.y.more O'.it K'.it B'.it
                  have J2 := J.it.byY p1 p2
                  refine ⟨⟨j4 + 1, _, by go_num, by omega, ⟨by rw [List.range_succ, List.map_append, ← List.append_assoc]; exact J2⟩⟩, by simp [natOf]; omega⟩
            · have hlt' : (j3 : Int) < 40 := by omega
              have ew : IntKind.u32.wrap (j3 : Int) = j3 := by rw [IntKind.wrap_u32]; omega
              have ew2 : IntKind.u32.wrap (4100000000 + (j3 : Int)) = ((4100000000 + j3 : Nat) : Int) := by rw [IntKind.wrap_u32]; omega
              go_wp2_with (at_builtin; refine wpList_appendR rfl (.tmp 114) (.tmp 118) 29 rfl 34 (.int .u32 0) 1 4 Tryd.underlying29 u32info rfl (by decide) wr ((Keeps.refl _ _).alloc _) 0 _ _ _ J.it.x.r _ 1 [e32 (4100000000 + j3)] (readsK_new _ _ _) (fun x hx => by rw [List.mem_singleton.1 hx]; rfl) (by omega) (by unfold maxLen; omega) (Nat.zero_le _) rfl rfl ?_; intro v' w' O' K' B')
              obtain ⟨p1, p2⟩ := J.it.x.more O'.it K'.it B'.it
              have J2 := J.it.byX p1 p2
              refine ⟨⟨j3 + 1, _, by go_num, by omega, ⟨by rw [List.range_succ, List.map_append, ← List.append_assoc]; exact J2⟩⟩, by simp [natOf]; omega⟩
        · rcases J.it.x.shape with ⟨_, h0⟩ | ⟨g, c, hg, hgc⟩
          · omega
          · injection hg with e1 _ e3
            subst e1 e3
            have hlt' : (j2 : Int) < yl := by omega
            have hge' : (0 : Int) ≤ j2 := by omega
            have ew : IntKind.u32.wrap (j2 : Int) = j2 := by rw [IntKind.wrap_u32]; omega
            have ew2 : IntKind.u32.wrap (4000000000 + (j2 : Int)) = ((4000000000 + j2 : Nat) : Int) := by rw [IntKind.wrap_u32]; omega
            obtain ⟨u, hu⟩ : ∃ u, X[j2]? = some u := ⟨_, List.getElem?_eq_getElem (by rw [J.it.x.len]; exact hlt)⟩
            have cx := J.it.x.cell hu
            have fx := owns_frozen J.it.x.r j2
            obtain ⟨p1, p2⟩ := J.it.x.put (k := 4000000000 + j2) hlt
            have J2 := Aside.mk (J.it.byX p1 p2)
            clear p1 p2 hu
            go_wp2_with fail
            go_roundw
            case rel => exact ⟨j2 + 1, _, own8, by go_num, by omega, J2⟩
            case measure => simp [natOf]; omega
    · obtain ⟨x, hx⟩ : ∃ x, ids[j]? = some x := ⟨_, List.getElem?_eq_getElem (by rw [HN.it]; exact hlt)⟩
      obtain ⟨g, o, rfl, hxc⟩ := CA.it j x hx
      have cx : wr.cell? ⟨g, o + j, none⟩ = some (.int .u32 (x : Nat)) := by rw [B.it.bel.bel.cell (World.block_lt_of_cell? w _ hxc)]; exact hxc
      have BP := Aside.mk (bput B.it.b x B.it.g.sents)
      go_upto_region 12 with (first | (go_at_call 12; refine BP.it.mono ?_; clear BP; rintro e w4 ⟨ev, rfl, C4, X4⟩) | fail)
      obtain ⟨own4, t4, s4⟩ := X4.it
      have B4 : Aside (Bo A w own4 w4 p pc (putL 1024 L x)) := ⟨B.it.g.sn s4 (by decide), t4, B.it.c.sn s4 (by decide)⟩
      generalize putL 1024 L x = L4 at B4
      have cx4 : w4.cell? ⟨g, o + j, none⟩ = some (.int .u32 (x : Nat)) := by rw [B4.it.bel.bel.cell (World.block_lt_of_cell? w _ hxc)]; exact hxc
      have BP := Aside.mk (bput_nil x B4.it.g.sents)
      have HX := Aside.mk hxc
      clear hxc hx CA cx t4 s4 X4 C4 B hll
      go_upto_if 74 with (first
        | (go_at_call 9; refine (code_of S5.it C5.out).mono ?_; rintro e w6 ⟨rfl, hw6⟩; subst hw6)
        | (go_at_call 12; refine BP.it.mono ?_; clear BP; rintro e w5 ⟨ev5, rfl, C5, K5⟩; have B5 := Aside.mk (B4.it.quiet K5.it); have S5 := Aside.mk B5.it.g.sents; have cx5 : w5.cell? ⟨g, o + j, none⟩ = some (.int .u32 (x : Nat)) := (by rw [B5.it.bel.bel.cell (World.block_lt_of_cell? w _ HX.it)]; exact HX.it); clear cx4)
        | (go_at_call 13; refine (brem_nil w7 x).mono ?_; rintro e w8 ⟨rfl, K8⟩)
        | (go_at_call 11; refine (bhas_nil _ x).mono ?_; rintro e w7 ⟨rfl, K7⟩; have cx7 : w7.cell? ⟨g, o + j, none⟩ = some (.int .u32 (x : Nat)) := (by rw [(B5.it.quiet K7.it).bel.bel.cell (World.block_lt_of_cell? w _ HX.it)]; exact HX.it))
        | fail)
      have B8 := Aside.mk ((B5.it.quiet K7.it).quiet K8.it)
      clear B4 B5
      go_wp2_with fail
      go_roundw
      case rel => exact ⟨j + 1, L4, own4, by go_num, by omega, B8⟩
      case measure => simp [natOf]; omega
end Go.Proofs.YtolmiecbgkdlfaaDoor
