/-
  culvertlaw17.PingsMemory
-/
import Derived.Test.YtnmpnajmhfonhaaDoorPgI
namespace Go.Proofs.YtnmpnajmhfonhaaDoor
open Go.RowKit
attribute [-go_sem] Builtin.append_

set_option maxRecDepth 20000 in
set_option maxHeartbeats 2000000 in
theorem memory_bad {A : Nat → Addr} (n : Int) (hn : n < 1 ∨ 1024 < n) (sv : Value) (w : World) (hs : Sents 124 codeVars A w) :
    Calls Tryd.prog 7 #[.int .i64 n, sv] w fun e w' => e = .returned (.bool true) ∧ Below w.heap.size w w' := by
  have F := Aside.mk (fixed17 hs)
  have HS := Aside.mk hs
  clear hs
  have HN := Aside.mk hn
  clear hn
  go_enter Tryd.func7, Tryd.ntmps7
  go_upto_region 3 with (go_at_call 12; refine F.it.mono ?_; rintro e w1 ⟨rfl, K1⟩)
  have N1 := Aside.mk (pnew_no n w1 _ ((HS.it.later K1.it.bel).cell 1 _ rfl) HN.it)
  go_upto_region 4 with (first | (go_at_call 8; refine N1.it.mono ?_; clear N1; rintro e w2 ⟨rfl, K2⟩) | fail)
  have D1 := Aside.mk (dnew_no n w2 HN.it)
  go_upto_region 5 with (first | (go_at_call 13; refine D1.it.mono ?_; clear D1; rintro e w3 ⟨rfl, K3⟩) | fail)
  rcases HN.it with h1 | h1
  · go_wp2_with fail
    go_ret
    exact ⟨rfl, (((K1.it.trans K2.it).trans K3.it).alloc _).bel⟩
  · have h2 : ¬ n < 1 := by omega
    go_wp2_with fail
    go_ret
    exact ⟨rfl, (((K1.it.trans K2.it).trans K3.it).alloc _).bel⟩

set_option maxRecDepth 20000 in
set_option maxHeartbeats 8000000 in
theorem memory_good {A : Nat → Addr} (n : Nat) (h1 : 1 ≤ n) (h2 : n ≤ 1024) (sv : Value) (zs : List OpV17) (w : World) (hs : Sents 124 codeVars A w) (hz : Ops17ArgU w sv zs) :
    Calls Tryd.prog 7 #[.int .i64 n, sv] w fun e w' => e = .returned (.bool true) ∧ Below w.heap.size w w' := by
  have F := Aside.mk (fixed17 hs)
  have HS := Aside.mk hs
  have H12 := Aside.mk (And.intro h1 h2)
  obtain ⟨hz, hz20⟩ := hz
  have HZ := Aside.mk hz
  obtain ⟨sa, sc, rfl, hsc, hsm, _⟩ := hz
  obtain ⟨M, hM⟩ : ∃ M, zs.length = M := ⟨_, rfl⟩
  rw [hM] at HZ hsc hz20 ⊢
  have HM := Aside.mk hM
  have hMm : (M : Int) ≤ 1048576 := by omega
  clear hs h1 h2 hM
  go_enter Tryd.func7, Tryd.ntmps7
  go_upto_region 3 with (go_at_call 12; refine F.it.mono ?_; rintro e w1 ⟨rfl, K1⟩)
  have N1 := Aside.mk (pnew_ok n H12.it.1 H12.it.2 w1 (fun _ => 0) 1 99)
  clear F
  go_upto_region 4 with (first | (go_at_call 8; refine N1.it.mono ?_; clear N1; rintro e w2 ⟨p, rfl, T2, _, K2⟩) | fail)
  have D1 := Aside.mk (dnew_ok n w2 (by have := H12.it; omega) (by have := H12.it; omega))
  go_upto_region 5 with (first | (go_at_call 13; refine D1.it.mono ?_; clear D1; rintro e w3 ⟨rfl, K3⟩) | fail)
  obtain ⟨wb, hwb⟩ : ∃ wb, w3.heap.size = wb := ⟨_, rfl⟩
  obtain ⟨own4, P4⟩ : ∃ own4, Aside (Lm A w (ptr p) (Pm.new n) (.slice none 0 0) (.slice none 0 0) (.slice none 0 0) wb (.slice none 0 0) [] (fun _ => []) (fun _ => 0) (.slice none 0 0) [] own4 (w3.alloc (.cells #[.int .i64 n, .int .i64 0, .slice none 0 0, .slice none 0 0, .slice none 0 0] 34))) := by
    have G1 := (OnG.start HS.it).sn (I := fun _ => False) (Sn.same K1.it) (fun x => x)
    have s2 : Sn (fun _ => False) (fun _ => 0) w1 (give (fun _ => 0) w1.heap.size 1) w2 := Sn.quiet K2.it 1
    have s4 : Sn (fun _ => False) (give (fun _ => 0) w1.heap.size 1) w2 (give (give (fun _ => 0) w1.heap.size 1) w2.heap.size 8) (w3.alloc (.cells #[.int .i64 n, .int .i64 0, .slice none 0 0, .slice none 0 0, .slice none 0 0] 34)) := Sn.quiet (K3.it.alloc _) 8
    exact ⟨_, ⟨⟨(G1.sn s2 (fun x => x)).sn s4 (fun x => x), ⟨.inr ⟨p, rfl, T2.it.sn s4 (fun x => x) (fun x => x)⟩, Dm.zero _ _ rfl rfl rfl, ⟨Pm.new_ok H12.it.2, fun x hx => by cases hx⟩⟩, by rw [← hwb]; exact Cells.new w3 _ _, give_new (by rw [← hwb]; exact K3.it.size)⟩, OwR.zero, fun k v e => by simp at e, OwR.zero, fun k v e => by simp at e⟩⟩
  rw [hwb]
  clear hwb T2
  generalize hW4 : (w3.alloc (.cells #[.int .i64 n, .int .i64 0, .slice none 0 0, .slice none 0 0, .slice none 0 0] 34)) = W4 at P4 ⊢
  clear hW4
  go_upto_region 9 with fail
  go_loopw [9, 54] (fun avv jv wr => ∃ (j : Nat) (m : Pm) (a1 : Option Addr) (l1 c1 : Nat) (a2 : Option Addr) (l2 c2 : Nat) (a3 : Option Addr) (l3 c3 : Nat) (a : Option Addr) (c : Nat) (vs : List Value) (f : Nat → List Nat) (own : Nat → Nat), avv = .slice a j c ∧ jv = .int .i64 j ∧ j ≤ M ∧ Aside (vs.length = j ∧ m.last ≤ j ∧ m.an.length ≤ j ∧ ∀ k, k < j → (f k).length ≤ 1048576) ∧ Aside (Lm A w (ptr p) m (.slice a1 l1 c1) (.slice a2 l2 c2) (.slice a3 l3 c3) wb (.slice a j c) vs f (fun _ => 0) (.slice none 0 0) [] own wr)) (fun _ jv _ => M - natOf jv)
  case atStart => exact ⟨0, Pm.new n, none, 0, 0, none, 0, 0, none, 0, 0, none, 0, [], fun _ => [], own4, rfl, rfl, Nat.zero_le _, ⟨rfl, Nat.le_refl _, Nat.le_refl _, fun k hk => by omega⟩, P4⟩
  case round =>
    clear P4
    obtain ⟨j, m, a1, l1, c1, a2, l2, c2, a3, l3, c3, a, c, vs, f, own, rfl, rfl, hj, HL, P⟩ := hrel
    rcases Nat.eq_or_lt_of_le hj with rfl | hlt
    · have P0 : Aside (Lm A w (ptr p) m (.slice a1 l1 c1) (.slice a2 l2 c2) (.slice a3 l3 c3) wb (.slice a j c) vs (f5 f 0 0) (fun k => (f k).length) (.slice none 0 0) [] own wr) := ⟨(P.it.lens _).more (fun k _ => (f5_start f k).symm)⟩
      clear P
      go_upto_region 28 with fail
      go_loopw [98] (fun iv wr => ∃ (i : Nat) (own : Nat → Nat), iv = .int .i64 i ∧ i ≤ j ∧ Aside (Lm A w (ptr p) m (.slice a1 l1 c1) (.slice a2 l2 c2) (.slice a3 l3 c3) wb (.slice a j c) vs (f5 f i 0) (fun k => (f k).length) (.slice none 0 0) [] own wr)) (fun iv _ => j - natOf iv)
      case atStart => exact ⟨0, own, rfl, Nat.zero_le _, P0⟩
      case round =>
        clear P0
        obtain ⟨i, own, rfl, hi, P⟩ := hrel
        rcases Nat.eq_or_lt_of_le hi with rfl | hilt
        · have P0 : Aside (Lm A w (ptr p) m (.slice a1 l1 c1) (.slice a2 l2 c2) (.slice a3 l3 c3) wb (.slice a i c) vs (fun k => r90 (f k).length k) (fun k => (f k).length) (.slice none 0 0) [] own wr) := ⟨P.it.more (fun k hk => f5_end f (by rw [HL.it.1] at hk; exact hk))⟩
          clear P
          go_upto_region 38 with fail
          go_loopw [20, 118] (fun gvv iv wr => ∃ (i2 : Nat) (ys : List Value) (own : Nat → Nat) (ga : Option Addr) (gc : Nat), gvv = .slice ga i2 gc ∧ iv = .int .i64 i2 ∧ i2 ≤ i ∧ Aside (ys.length = i2) ∧ Aside (Lm A w (ptr p) m (.slice a1 l1 c1) (.slice a2 l2 c2) (.slice a3 l3 c3) wb (.slice a i c) vs (fun k => r90 (f k).length k) (fun k => (f k).length) (.slice ga i2 gc) ys own wr)) (fun _ iv _ => i - natOf iv)
          case atStart => exact ⟨0, [], own, none, 0, rfl, rfl, Nat.zero_le _, ⟨rfl⟩, P0⟩
          case round =>
            clear P0
            obtain ⟨k, ys, own, ga, gc, rfl, rfl, hk, HY, P⟩ := hrel
            rcases Nat.eq_or_lt_of_le hk with rfl | hklt
            · go_upto_region 48 with fail
              go_loopw [143] (fun iv wr2 => ∃ (i2 : Nat), iv = .int .i64 i2 ∧ i2 ≤ k ∧ wr2 = wr) (fun iv _ => k - natOf iv)
              case atStart => exact ⟨0, rfl, Nat.zero_le _, rfl⟩
              case round =>
                obtain ⟨i2, rfl, hi2, rfl⟩ := hrel
                rcases Nat.eq_or_lt_of_le hi2 with rfl | hi2lt
                · go_upto_region 59 with fail
                  have Z := Aside.mk (P.it.pz.quiet (Keeps.refl _ _).drew)
                  obtain ⟨c3', hc3⟩ : ∃ c, Value.slice a3 l3 c3 = .slice a3 m.ow.length c := by
                    obtain ⟨a, c, h, _⟩ := P.it.pw.t.d.o.shape
                    injection h with h1 h2 h3
                    exact ⟨c3, by rw [h2]⟩
                  injection hc3 with _ hm3 _
                  have HM3 := Aside.mk hm3
                  have e3 : ((l3 : Int) == l3) = true := by simp
                  clear P hm3
                  go_region_held3 (fun w' => w'.cell? ⟨wb, 2, none⟩ = some (.slice a1 l1 c1) ∧ w'.cell? ⟨wb, 3, none⟩ = some (.slice a2 l2 c2) ∧ w'.cell? ⟨wb, 4, none⟩ = some (.slice a3 l3 c3)) (first | with_reducible exact Pz.cells (by with_reducible assumption)) (first
                    | (go_at_call 10; with_reducible refine (pz_owed Z4).mono ?_; rintro e w9 ⟨rfl, Z5⟩; rw [show m.told.ow.length = m.ow.length from rfl, ← HM3.it])
                    | (go_at_call 15; with_reducible refine (pz_sameA Z3 R3).mono ?_; rintro e w8 ⟨rfl, Z4⟩)
                    | (go_at_call 16; with_reducible refine (pz_ans Z2).mono ?_; rintro e w7 ⟨d7, e7, f7, rfl, R3, Z3⟩)
                    | (go_at_call 15; with_reducible refine (pz_sameW Z1 R1).mono ?_; rintro e w6 ⟨rfl, Z2⟩)
                    | (go_at_call 11; with_reducible refine (pz_wait (by with_reducible assumption)).mono ?_; rintro e w5 ⟨d5, e5, f5', rfl, R1, Z1⟩)
                    | fail)
                  all_goals
                    go_wp2_with fail
                    go_ret
                    exact ⟨rfl, (Keeps.ofBelow Z5.it.g.g.bel).bel⟩
                · obtain ⟨v, hv⟩ : ∃ v, vs[i2]? = some v := ⟨_, List.getElem?_eq_getElem (by rw [HL.it.1]; exact hi2lt)⟩
                  obtain ⟨ab, ac, ea, hac, cv⟩ := rowS_cell P.it.all hv
                  injection ea with ea1 ea2 ea3
                  subst ea1 ea3
                  have X := P.it.xs i2 v hv
                  obtain ⟨va, vc, ev, hvc⟩ := X.shape
                  rw [r90_len] at ev hvc
                  obtain ⟨N, hN⟩ : ∃ N, (f i2).length = N := ⟨_, rfl⟩
                  rw [hN] at ev hvc X
                  have HN := Aside.mk hN
                  subst ev
                  have XX := Aside.mk X
                  obtain ⟨y, hy⟩ : ∃ y, ys[i2]? = some y := ⟨_, List.getElem?_eq_getElem (by rw [HY.it]; exact hi2lt)⟩
                  obtain ⟨gb, gc', eg, hgc, cy⟩ := rowS_cell P.it.gr hy
                  injection eg with eg1 eg2 eg3
                  subst eg1 eg3
                  have Y := P.it.gs i2 y hy
                  rw [hN] at Y
                  obtain ⟨yb, yc, ey, yy⟩ := Y.cell (j := N) (y := t70 i2) (by rw [List.getElem?_append_right (by rw [r90_len]; exact Nat.le_refl _), r90_len, Nat.sub_self]; rfl)
                  rw [List.length_append, r90_len] at ey
                  subst ey
                  have hNb : (N : Int) ≤ 1048576 := by have := HL.it.2.2.2 i2 (by omega); omega
                  have hjc : (k : Int) ≤ c := by have := HL.it.1; omega
                  have hgc' : (k : Int) ≤ gc := by have := HY.it; omega
                  have hu := u32_small (k := i2) (c := 900000) (by omega) (by decide)
                  have hu7 := u32_small (k := i2) (c := 700000) (by omega) (by decide)
                  have hiM : (i2 : Int) ≤ 1048576 := by omega
                  have e77 : (((700000 + i2 : Nat) : Int) != ((700000 + i2 : Nat) : Int)) = false := by simp
                  have yy' : wr.cell? ⟨yb, N, none⟩ = some (.int .u32 ((700000 + i2 : Nat) : Int)) := yy
                  clear hv hN ea2 hac hy eg2 hgc X Y yy
                  go_upto_region 51 with fail
                  go_loopw [150] (fun qv wr3 => ∃ (q : Nat), qv = .int .i64 q ∧ q ≤ N ∧ wr3 = wr) (fun qv _ => N - natOf qv)
                  case atStart => exact ⟨0, rfl, Nat.zero_le _, rfl⟩
                  case round =>
                    obtain ⟨q, rfl, hq, rfl⟩ := hrel
                    rcases Nat.eq_or_lt_of_le hq with rfl | hqlt
                    · go_wp2_with fail
                      go_roundw
                      case rel => exact ⟨i2 + 1, by go_num, by omega, by trivial⟩
                      case measure => simp [natOf]; omega
                    · obtain ⟨xb, xc, ex, xx⟩ := XX.it.cell (r90_at (k := i2) hqlt)
                      rw [r90_len] at ex
                      injection ex with ex1 ex2 ex3
                      subst ex1 ex3
                      clear ex2
                      have e99 : (((900000 + i2 : Nat) : Int) != ((900000 + i2 : Nat) : Int)) = false := by simp
                      go_wp2_with fail
                      go_roundw
                      case rel => exact ⟨q + 1, by go_num, by omega, by trivial⟩
                      case measure => simp [natOf]; omega
            · obtain ⟨v, hv⟩ : ∃ v, vs[k]? = some v := ⟨_, List.getElem?_eq_getElem (by rw [HL.it.1]; exact hklt)⟩
              obtain ⟨ab, ac, ea, hac, cv⟩ := rowS_cell P.it.all hv
              injection ea with ea1 ea2 ea3
              subst ea1 ea3
              have X := P.it.xs k v hv
              obtain ⟨va, vc, ev, hvc⟩ := X.shape
              rw [r90_len] at ev hvc
              obtain ⟨N, hN⟩ : ∃ N, (f k).length = N := ⟨_, rfl⟩
              rw [hN] at ev hvc X
              have HN := Aside.mk hN
              subst ev
              have HV := Aside.mk hv
              have hNb : (N : Int) ≤ 1048576 := by have := HL.it.2.2.2 k hklt; omega
              have hjc : (i : Int) ≤ c := by have := HL.it.1; omega
              have hu7 := u32_small (k := k) (c := 700000) (by omega) (by decide)
              have hiM : (k : Int) ≤ 1048576 := by omega
              have G0 : Aside (Gw own wr (.slice va N vc) (r90 N k) (.slice va (N + 0) vc) 0) := ⟨Grows.start X 98⟩
              clear hv hN ea2 hac X
              go_upto_region 42 with fail
              clear cv
              go_loopw [23, 24] (fun gx qv wr => ∃ (q : Nat) (own : Nat → Nat) (xb : Option Addr) (xd : Nat), gx = .slice xb (N + q) xd ∧ qv = .int .i64 q ∧ q ≤ 64 ∧ Aside (Gw own wr (.slice va N vc) (r90 N k) (.slice xb (N + q) xd) q) ∧ Aside (Lm A w (ptr p) m (.slice a1 l1 c1) (.slice a2 l2 c2) (.slice a3 l3 c3) wb (.slice (some ⟨ab, 0, none⟩) i c) vs (fun k => r90 (f k).length k) (fun k => (f k).length) (.slice ga k gc) ys own wr)) (fun _ qv _ => 64 - natOf qv)
              case atStart => exact ⟨0, own, va, vc, rfl, rfl, by omega, G0, P⟩
              case round =>
                clear P G0
                obtain ⟨q, own, xb, xd, rfl, rfl, hq, G, P⟩ := hrel
                have X := P.it.xs k _ HV.it
                rw [HN.it] at X
                rcases Nat.eq_or_lt_of_le hq with h64 | h64
                · have h64' : ¬ (q : Int) < 64 := by omega
                  have ho : (Value.slice va N vc).oneCell' = true := rfl
                  obtain ⟨a5, c5, w5, own5, run5, X5, Y5, S5⟩ := X.appRun (t70 k) (by rw [r90_len]; omega)
                  rw [r90_len] at run5 Y5
                  have P5 : Aside (Lm A w (ptr p) m (.slice a1 l1 c1) (.slice a2 l2 c2) (.slice a3 l3 c3) wb (.slice (some ⟨ab, 0, none⟩) i c) vs (fun k => r90 (f k).length k) (fun k => (f k).length) (.slice ga k gc) ys own5 w5) := ⟨(P.it.at S5.it (by rw [HY.it]; exact Nat.le_refl _) HV.it X5.it).more (fun j _ => by split; (rename_i e; subst e; rw [HN.it]); rfl)⟩
                  obtain ⟨a6, c6, w6, own6, run6, P6⟩ := P5.it.gpushRun (v := .slice a5 (N + 1) c5) (by rw [HY.it]; simp only [HN.it]; exact Y5.it) rfl (by rw [HY.it]; omega)
                  rw [HY.it] at run6 P6
                  have run5' : ∀ ty, (Builtin.append_ #[29, 29] ty #[.slice va N vc, .slice (some ⟨wr.heap.size, 0, none⟩) 1 1]).run Tryd.prog (wr.alloc (.cells #[.int .u32 (700000 + (k : Int))] 37)) = .ok (.slice a5 (N + 1) c5) w5 := run5
                  have HY6 : Aside ((ys ++ [Value.slice a5 (N + 1) c5]).length = k + 1) := ⟨by rw [List.length_append, HY.it]; rfl⟩
                  clear X X5 Y5 S5 P5 run5 P G h64
                  go_wp2_with fail
                  go_roundw
                  case rel => exact ⟨k + 1, ys ++ [.slice a5 (N + 1) c5], own6, a6, c6, rfl, by go_num, by omega, HY6, P6⟩
                  case measure => simp [natOf]; omega
                · have h64' : (q : Int) < 64 := by omega
                  obtain ⟨a5, c5, w5, own5, run5, X5, G5, S5⟩ := Gw.run G.it X (by rw [r90_len]; omega) hq
                  rw [r90_len] at run5 G5
                  have P5 : Aside (Lm A w (ptr p) m (.slice a1 l1 c1) (.slice a2 l2 c2) (.slice a3 l3 c3) wb (.slice (some ⟨ab, 0, none⟩) i c) vs (fun k => r90 (f k).length k) (fun k => (f k).length) (.slice ga k gc) ys own5 w5) := ⟨(P.it.at S5.it (by rw [HY.it]; exact Nat.le_refl _) HV.it X5.it).more (fun j _ => by split; (rename_i e; subst e; rw [HN.it]); rfl)⟩
                  have run5' : ∀ ty, (Builtin.append_ #[29, 29] ty #[.slice xb (N + q) xd, .slice (some ⟨wr.heap.size, 0, none⟩) 1 1]).run Tryd.prog (wr.alloc (.cells #[.int .u32 800000] 37)) = .ok (.slice a5 (N + (q + 1)) c5) w5 := run5
                  clear X X5 S5 run5 P G h64
                  go_wp2_with fail
                  go_roundw
                  case rel => exact ⟨q + 1, own5, a5, c5, rfl, by go_num, by omega, G5, P5⟩
                  case measure => simp [natOf]; omega
        · obtain ⟨v, hv⟩ : ∃ v, vs[i]? = some v := ⟨_, List.getElem?_eq_getElem (by rw [HL.it.1]; exact hilt)⟩
          obtain ⟨ab, ac, ea, hac, cv⟩ := rowS_cell P.it.all hv
          injection ea with ea1 ea2 ea3
          subst ea1 ea3
          obtain ⟨va, vc, ev, hvc⟩ := (P.it.xs i v hv).shape
          have ni : (f5 f i 0 i).length = (f i).length := f5_len f (Nat.zero_le _)
          rw [ni] at ev hvc
          obtain ⟨N, hN⟩ : ∃ N, (f i).length = N := ⟨_, rfl⟩
          rw [hN] at ev hvc
          have HN := Aside.mk hN
          subst ev
          have HV := Aside.mk hv
          have hNb : (N : Int) ≤ 1048576 := by have := HL.it.2.2.2 i hilt; omega
          have hjc : (j : Int) ≤ c := by have := HL.it.1; omega
          have hu := u32_small (k := i) (c := 900000) (by omega) (by decide)
          have hiM : (i : Int) ≤ 1048576 := by omega
          clear hv ni hN ea2 hac
          go_upto_region 31 with fail
          clear cv
          go_loopw [105] (fun qv wr => ∃ (q : Nat) (own : Nat → Nat), qv = .int .i64 q ∧ q ≤ N ∧ Aside (Lm A w (ptr p) m (.slice a1 l1 c1) (.slice a2 l2 c2) (.slice a3 l3 c3) wb (.slice (some ⟨ab, 0, none⟩) j c) vs (f5 f i q) (fun k => (f k).length) (.slice none 0 0) [] own wr)) (fun qv _ => N - natOf qv)
          case atStart => exact ⟨0, own, rfl, Nat.zero_le _, P⟩
          case round =>
            clear P
            obtain ⟨q, own, rfl, hq, P⟩ := hrel
            rcases Nat.eq_or_lt_of_le hq with rfl | hqlt
            · have P2 : Aside (Lm A w (ptr p) m (.slice a1 l1 c1) (.slice a2 l2 c2) (.slice a3 l3 c3) wb (.slice (some ⟨ab, 0, none⟩) j c) vs (f5 f (i + 1) 0) (fun k => (f k).length) (.slice none 0 0) [] own wr) := ⟨P.it.more (fun k _ => by rw [← HN.it]; exact f5_all f i k)⟩
              clear P
              go_wp2_with fail
              go_roundw
              case rel => exact ⟨i + 1, own, by go_num, by omega, P2⟩
              case measure => simp [natOf]; omega
            · have X := P.it.xs i _ HV.it
              rw [f5_at] at X
              have pl : (part i q (f i)).length = N := by rw [part_len (by rw [HN.it]; exact hq)]; exact HN.it
              obtain ⟨b, c', u0, e1, fz, ce, X2, S2⟩ := X.put (i := q) (by rw [pl]; exact hqlt) (900000 + i)
              rw [pl] at e1
              injection e1 with e1 _ e2
              subst e1 e2
              rw [part_step (by rw [HN.it]; exact hqlt)] at X2
              have P2 : Aside (Lm A w (ptr p) m (.slice a1 l1 c1) (.slice a2 l2 c2) (.slice a3 l3 c3) wb (.slice (some ⟨ab, 0, none⟩) j c) vs (f5 f i (q + 1)) (fun k => (f k).length) (.slice none 0 0) [] own (wr.setCell ⟨b, q, none⟩ (e32 (900000 + i)))) := ⟨(P.it.at S2 (Nat.zero_le _) HV.it X2).more (fun k _ => f5_step f i q k)⟩
              clear X X2 S2 pl P
              go_wp2_with fail
              go_roundw
              case rel => exact ⟨q + 1, own, by go_num, by omega, P2⟩
              case measure => simp [natOf]; omega
    · obtain ⟨z, hz⟩ : ∃ z, zs[j]? = some z := ⟨_, List.getElem?_eq_getElem (by rw [HM.it]; exact hlt)⟩
      have hzw := HZ.it
      rw [← HM.it] at hzw
      obtain ⟨sb, so, rfl, x0, x1, hid⟩ := op17_cells hzw hz
      clear hz hzw
      obtain ⟨kd, id⟩ := z
      simp only at x0 x1 hid
      have KW : Keeps Nowhere w wr := Keeps.ofBelow P.it.pw.g.g.bel
      have z0 : wr.cell? ⟨sb, so + j * 2, none⟩ = some (.int .i64 kd) := by rw [World.cell?_of_block (w := w) (KW.block sb (World.block_lt_of_cell? w _ x0) (fun x => x))]; exact x0
      have z1 : wr.cell? ⟨sb, so + j * 2 + 1, none⟩ = some (.int .u32 (id : Nat)) := by rw [World.cell?_of_block (w := w) (KW.block sb (World.block_lt_of_cell? w _ x0) (fun x => x))]; exact x1
      have HID := Aside.mk hid
      clear x0 x1 KW hid
      have Q2 := Aside.mk (P.it.quiet ((Keeps.refl _ _).alloc (.cells #[.int .i64 kd, .int .u32 (id : Nat)] 39)))
      have OB : Cells (wr.alloc (.cells #[.int .i64 kd, .int .u32 (id : Nat)] 39)) wr.heap.size 39 [.int .i64 kd, .int .u32 (id : Nat)] := Cells.new wr _ _
      have d0 := OB.cell 0
      have d1 := OB.cell 1
      simp only [List.getElem?_cons_zero, List.getElem?_cons_succ] at d0 d1
      go_upto_region 11 with fail
      clear z0 z1 OB P
      generalize (wr.alloc (.cells #[.int .i64 kd, .int .u32 (id : Nat)] 39)) = W2 at Q2 d0 d1 ⊢
      generalize wr.heap.size = ob at d0 d1 ⊢
      have QP := Aside.mk Q2.it.pw
      obtain ⟨u0, u1, u2, u3, u4⟩ := Pw.cells QP
      by_cases k2 : kd = 2
      · subst k2
        have uf := Q2.it.pw.c.1.frozen 3
        have SC : Aside (Sn (fun q => q = 8) own W2 own (W2.setCell ⟨wb, 3, none⟩ (.slice none 0 0))) := ⟨⟨fun _ _ => rfl, (Keeps.refl _ _).setCell _ _ (fun _ => Q2.it.pw.c.2)⟩⟩
        have CC : Aside (CellsO own 8 (W2.setCell ⟨wb, 3, none⟩ (.slice none 0 0)) wb 34 (rcel m (.slice a1 l1 c1) (.slice none 0 0) (.slice a3 l3 c3))) := ⟨⟨Q2.it.pw.c.1.setCell 3 _, Q2.it.pw.c.2⟩⟩
        have AN := Aside.mk (panswered2 (Q2.it.pw.t.t.sn SC.it (by decide) (by decide)) j)
        go_upto_region 14 with fail
        clear u0 u1 u2 u3 u4 uf d0 d1 QP
        generalize W2.setCell ⟨wb, 3, none⟩ (.slice none 0 0) = W3 at SC CC AN ⊢
        obtain ⟨q, hq⟩ : ∃ q, m.an.length = q := ⟨_, rfl⟩
        have HQ := Aside.mk hq
        rw [hq] at AN
        clear hq
        go_upto_region 15 with (first | (go_at_call 16; refine AN.it.mono ?_; clear AN; rintro e w6 ⟨a6, c6, rfl, X6, V6, S6⟩) | fail)
        have S26 : Aside (Sn (fun q => q = 1 ∨ q = 8) own W2 own w6) := ⟨(SC.it.mono (fun _ e => .inr e)).trans (S6.it.mono (fun _ e => .inl e))⟩
        have OUT := Q2.it.out (m' := m.told) (v := .slice a6 q c6) ⟨rfl, rfl⟩ (by rw [HL.it.1]; exact V6.it) ⟨rfl, rfl, rfl⟩ Q2.it.pw.t.f.told S26.it (CC.it.sn S6.it (by decide)) (by rw [HL.it.1]; exact X6.it)
        rw [HL.it.1] at OUT
        have L6 := Aside.mk OUT.1
        have R6 := Aside.mk OUT.2
        have SM := Aside.mk (same17 _ _ m.an (owns_readsK X6.it.1) R6.it.r)
        clear OUT S26 SC CC Q2 V6 S6
        go_upto_region 17 with (first | (go_at_call 15; refine SM.it.mono ?_; clear SM; rintro e w7 ⟨rfl, K7⟩) | fail)
        have L7 := Aside.mk (L6.it.quiet K7.it)
        have X7 : Aside (XA (relab own j) w7 vs.length (.slice a6 q c6) m.an) := ⟨by rw [HL.it.1]; exact X6.it.sn (I := fun _ => False) (Sn.same K7.it) (fun x => x)⟩
        obtain ⟨a8, c8, w8, own8, run8, L8⟩ := L7.it.pushRun X7.it rfl (by rw [HL.it.1]; omega)
        rw [HL.it.1] at run8 L8
        have HL8 : Aside ((vs ++ [Value.slice a6 q c6]).length = j + 1 ∧ m.told.last ≤ j + 1 ∧ m.told.an.length ≤ j + 1 ∧ ∀ k, k < j + 1 → ((fun i => if i = j then m.an else f i) k).length ≤ 1048576) := ⟨by
          refine ⟨by rw [List.length_append, HL.it.1]; rfl, by show m.last ≤ _; have := HL.it.2.1; omega, Nat.zero_le _, fun k hk => ?_⟩
          simp only
          split
          · have := HL.it.2.2.1; omega
          · exact HL.it.2.2.2 k (by omega)⟩
        clear L7 X7 L6 X6
        go_wp2_with fail
        go_roundw
        case rel => exact ⟨j + 1, m.told, a1, l1, c1, none, 0, 0, a3, l3, c3, a8, c8, vs ++ [.slice a6 q c6], _, own8, rfl, by go_num, by omega, HL8, L8⟩
        case measure => simp [natOf]; omega
      · have ek : (kd == 2) = false := beq_eq_false_iff_ne.2 k2
        clear k2
        have ST := Aside.mk (step17 own W2 Q2.it.pw.g Q2.it.pw.t kd id (by decide) (by have := HL.it.2.1; omega) HID.it (by have := HL.it.2.2.1; omega))
        have HL3 : Aside ((stepM m kd id).last ≤ j + 1 ∧ (stepM m kd id).an.length ≤ j + 1) := ⟨by have h1 := stepM_last m kd id (by have := HL.it.2.1; omega); have h2 := stepM_an m kd id; have := HL.it; omega⟩
        obtain ⟨mn, hmn⟩ : ∃ mn, stepM m kd id = mn := ⟨_, rfl⟩
        rw [hmn] at ST HL3
        clear hmn
        go_upto_region 19 with (first | (go_at_call 14; refine ST.it.mono ?_; clear ST; rintro e w6 ⟨b1, m1, d1', b2, m2, d2, b3, m3, d3, own6, rfl, X6⟩) | fail)
        obtain ⟨CO, L7⟩ := Q2.it.stepped X6.it.1 X6.it.2 ((Keeps.refl _ w6).alloc (.cells #[.int .i64 mn.most, .int .i64 mn.last, .slice b1 m1 d1', .slice b2 m2 d2, .slice b3 m3 d3] 34))
        have NB := Cells.new w6 34 (rcel mn (.slice b1 m1 d1') (.slice b2 m2 d2) (.slice b3 m3 d3))
        have n0 := NB.cell 0
        have n1 := NB.cell 1
        have n2 := NB.cell 2
        have n3 := NB.cell 3
        have n4 := NB.cell 4
        simp only [List.getElem?_cons_zero, List.getElem?_cons_succ, rcel] at n0 n1 n2 n3 n4
        have o0 := CO.1.cell 0
        have o1 := CO.1.cell 1
        have o2 := CO.1.cell 2
        have o3 := CO.1.cell 3
        have o4 := CO.1.cell 4
        have of0 := CO.1.frozen 0
        have of1 := CO.1.frozen 1
        have of2 := CO.1.frozen 2
        have of3 := CO.1.frozen 3
        have of4 := CO.1.frozen 4
        simp only [List.getElem?_cons_zero, List.getElem?_cons_succ, rcel] at o0 o1 o2 o3 o4
        have L8 := Aside.mk L7
        unfold set5 at L8
        clear NB X6 Q2 QP u0 u1 u2 u3 u4 d0 d1 CO L7
        generalize (w6.alloc (.cells #[.int .i64 mn.most, .int .i64 mn.last, .slice b1 m1 d1', .slice b2 m2 d2, .slice b3 m3 d3] 34)) = W7 at L8 n0 n1 n2 n3 n4 o0 o1 o2 o3 o4 of0 of1 of2 of3 of4 ⊢
        generalize w6.heap.size = nb at n0 n1 n2 n3 n4 ⊢
        go_upto_region 22 with fail
        clear n0 n1 n2 n3 n4 o0 o1 o2 o3 o4 of0 of1 of2 of3 of4
        generalize (((((W7.setCell ⟨wb, 0, none⟩ (.int .i64 mn.most)).setCell ⟨wb, 1, none⟩ (.int .i64 mn.last)).setCell ⟨wb, 2, none⟩ (.slice b1 m1 d1')).setCell ⟨wb, 3, none⟩ (.slice b2 m2 d2)).setCell ⟨wb, 4, none⟩ (.slice b3 m3 d3)) = W8 at L8 ⊢
        have WT := Aside.mk (L8.it.waits j)
        obtain ⟨q, hq⟩ : ∃ q, mn.L.length = q := ⟨_, rfl⟩
        have HQ : Aside (mn.L.length = q ∧ q ≤ 1024) := ⟨hq, by have h1 := L8.it.pw.t.f.ok.wl; have h2 := L8.it.pw.t.f.ok.top; omega⟩
        rw [hq] at WT
        clear hq L8
        go_upto_region 23 with (first | (go_at_call 11; refine WT.it.mono ?_; clear WT; rintro e w9 ⟨a9, c9, own9, rfl, X9, L9⟩) | fail)
        have QP := Aside.mk L9.it.pw
        obtain ⟨u0, u1, u2, u3, u4⟩ := Pw.cells QP
        have SM := Aside.mk (same17 _ _ (ks mn.L) (owns_readsK X9.it.1) L9.it.pw.t.d.wt.r)
        go_upto_region 25 with (first | (go_at_call 15; refine SM.it.mono ?_; clear SM; rintro e w10 ⟨rfl, K10⟩) | fail)
        clear u0 u1 u2 u3 u4 QP
        have L10 := Aside.mk (L9.it.quiet K10.it)
        have X10 : Aside (XA own9 w10 vs.length (.slice a9 q c9) (ks mn.L)) := ⟨by rw [HL.it.1]; exact X9.it.sn (I := fun _ => False) (Sn.same K10.it) (fun x => x)⟩
        obtain ⟨a8, c8, w8, own8, run8, L11⟩ := L10.it.pushRun X10.it rfl (by rw [HL.it.1]; omega)
        rw [HL.it.1] at run8 L11
        have HL8 : Aside ((vs ++ [Value.slice a9 q c9]).length = j + 1 ∧ mn.last ≤ j + 1 ∧ mn.an.length ≤ j + 1 ∧ ∀ k, k < j + 1 → ((fun i => if i = j then ks mn.L else f i) k).length ≤ 1048576) := ⟨by
          refine ⟨by rw [List.length_append, HL.it.1]; rfl, HL3.it.1, HL3.it.2, fun k hk => ?_⟩
          simp only
          split
          · rw [len_ks]; have := HQ.it; omega
          · exact HL.it.2.2.2 k (by omega)⟩
        clear L9 X9 L10 X10
        go_wp2_with fail
        go_roundw
        case rel => exact ⟨j + 1, mn, b1, m1, d1', b2, m2, d2, b3, m3, d3, a8, c8, vs ++ [.slice a9 q c9], _, own8, rfl, by go_num, by omega, HL8, L11⟩
        case measure => simp [natOf]; omega
/-- PingsMemory -/
theorem pingsMemory_walkU {A : Nat → Addr} (n : Int) (sv : Value) (zs : List OpV17) (w : World) (hs : Sents 124 codeVars A w) (hz : Ops17ArgU w sv zs) :
    Calls Tryd.prog 7 #[.int .i64 n, sv] w fun e w' => e = .returned (.bool true) ∧ Below w.heap.size w w' := by
  by_cases hn : n < 1 ∨ 1024 < n
  · exact memory_bad n hn sv w hs
  · obtain ⟨m, rfl⟩ : ∃ m : Nat, n = m := ⟨n.toNat, by omega⟩
    exact memory_good m (by omega) (by omega) sv zs w hs hz
end Go.Proofs.YtnmpnajmhfonhaaDoor
