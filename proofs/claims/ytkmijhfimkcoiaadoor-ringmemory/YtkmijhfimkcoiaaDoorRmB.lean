/-
  culvertlaw02.apart
-/
import Derived.Test.YtkmijhfimkcoiaaDoorRmA
namespace Go.Proofs.YtkmijhfimkcoiaaDoor
open Go.RowKit
attribute [-go_sem] Builtin.append_

set_option maxRecDepth 20000 in
set_option maxHeartbeats 8000000 in
theorem apart_any {own0 : Nat → Nat} {w0 : World} {av : Value} {vs : List Value} (f : Nat → List Int) (h : OwR own0 5 w0 27 1 av vs.length vs) (hx : ∀ k v, vs[k]? = some v → XA own0 w0 k v (f k)) (hn : vs.length ≤ 1000) (hl : ∀ k, k < vs.length → (f k).length ≤ 2147483647) :
    Calls Tryd.prog 15 #[av] w0 fun e w' => e = .returned (.bool true) ∧ ∃ own', Aside (Sn Ia own0 w0 own' w') ∧ Aside (∀ k v, vs[k]? = some v → XA own' w' k v (r90 (f k).length k)) := by
  have P0 : Aside (Ap own0 w0 av vs (f5 f 0 0) (fun k => (f k).length) (.slice none 0 0) [] own0 w0) := ⟨⟨Sn.refl _ _ _, h, fun k v e => by rw [f5_start]; exact hx k v e, OwR.zero, fun k v e => by simp at e⟩⟩
  obtain ⟨a, c, rfl⟩ := slice_len h.1
  obtain ⟨j, hj⟩ : ∃ j, vs.length = j := ⟨_, rfl⟩
  rw [hj] at hn hl P0 ⊢
  have HJ := Aside.mk hj
  have HL := Aside.mk hl
  have hjM : (j : Int) ≤ 1000 := by omega
  clear h hx hn hl hj
  go_enter Tryd.func15, Tryd.ntmps15
  go_upto_region 2 with fail
  go_loopw [16] (fun iv wr => ∃ (i : Nat) (own : Nat → Nat), iv = .int .i64 i ∧ i ≤ j ∧ Aside (Ap own0 w0 (.slice a j c) vs (f5 f i 0) (fun k => (f k).length) (.slice none 0 0) [] own wr)) (fun iv _ => j - natOf iv)
  case atStart => exact ⟨0, own0, rfl, Nat.zero_le _, P0⟩
  case round =>
    clear P0
    obtain ⟨i, own, rfl, hi, P⟩ := hrel
    rcases Nat.eq_or_lt_of_le hi with rfl | hilt
    · have P0 : Aside (Ap own0 w0 (.slice a i c) vs (fun k => r90 (f k).length k) (fun k => (f k).length) (.slice none 0 0) [] own wr) := ⟨P.it.more (fun k hk => f5_end f (by rw [HJ.it] at hk; exact hk))⟩
      clear P
      go_upto_region 12 with fail
      go_loopw [6, 35] (fun gvv iv wr => ∃ (i2 : Nat) (ys : List Value) (own : Nat → Nat) (ga : Option Addr) (gc : Nat), gvv = .slice ga i2 gc ∧ iv = .int .i64 i2 ∧ i2 ≤ i ∧ Aside (ys.length = i2) ∧ Aside (Ap own0 w0 (.slice a i c) vs (fun k => r90 (f k).length k) (fun k => (f k).length) (.slice ga i2 gc) ys own wr)) (fun _ iv _ => i - natOf iv)
      case atStart => exact ⟨0, [], own, none, 0, rfl, rfl, Nat.zero_le _, ⟨rfl⟩, P0⟩
      case round =>
        clear P0
        obtain ⟨k, ys, own, ga, gc, rfl, rfl, hk, HY, P⟩ := hrel
        rcases Nat.eq_or_lt_of_le hk with rfl | hklt
        · go_upto_region 22 with fail
          go_loopw [59] (fun iv wr2 => ∃ (i2 : Nat), iv = .int .i64 i2 ∧ i2 ≤ k ∧ wr2 = wr) (fun iv _ => k - natOf iv)
          case atStart => exact ⟨0, rfl, Nat.zero_le _, rfl⟩
          case round =>
            obtain ⟨i2, rfl, hi2, rfl⟩ := hrel
            rcases Nat.eq_or_lt_of_le hi2 with rfl | hi2lt
            · go_wp2_with fail
              go_ret
              exact ⟨rfl, own, ⟨P.it.s⟩, ⟨P.it.xs⟩⟩
            · obtain ⟨v, hv⟩ : ∃ v, vs[i2]? = some v := ⟨_, List.getElem?_eq_getElem (by rw [HJ.it]; exact hi2lt)⟩
              have Pall := P.it.all
              rw [← HJ.it] at Pall
              obtain ⟨ab, ac, ea, hac, cv⟩ := rowS_cell Pall hv
              injection ea with ea1 ea2 ea3
              subst ea1 ea3
              have X := P.it.xs i2 v hv
              obtain ⟨va, vc, ev, hvc⟩ := X.shape
              rw [r90_len] at ev hvc
              obtain ⟨N, hN⟩ : ∃ N, (f i2).length = N := ⟨_, rfl⟩
              rw [hN] at ev hvc X
              subst ev
              have XX := Aside.mk X
              obtain ⟨y, hy⟩ : ∃ y, ys[i2]? = some y := ⟨_, List.getElem?_eq_getElem (by rw [HY.it]; exact hi2lt)⟩
              have Pgr := P.it.gr
              rw [← HY.it] at Pgr
              obtain ⟨gb, gc', eg, hgc, cy⟩ := rowS_cell Pgr hy
              injection eg with eg1 eg2 eg3
              subst eg1 eg3
              have Y := P.it.gs i2 y hy
              rw [hN] at Y
              obtain ⟨yb, yc, ey, yy⟩ := Y.cell (j := N) (y := t70 i2) (by rw [List.getElem?_append_right (by rw [r90_len]; exact Nat.le_refl _), r90_len, Nat.sub_self]; rfl)
              rw [List.length_append, r90_len] at ey
              subst ey
              have hNb : (N : Int) ≤ 2147483647 := by have := HL.it i2 (by omega); omega
              have hjc : (k : Int) ≤ c := by have := HJ.it; omega
              have hgc' : (k : Int) ≤ gc := by have := HY.it; omega
              have hu := wrap_small (c := -100) (k := i2) (by omega) (by omega)
              have hu7 := wrap_smallA (c := 1000) (k := i2) (by omega) (by omega)
              have hiM : (i2 : Int) ≤ 1000 := by omega
              have e77 : ((1000 + (i2 : Int)) != (1000 + (i2 : Int))) = false := by simp
              have yy' : wr.cell? ⟨yb, N, none⟩ = some (.int .i64 (1000 + (i2 : Int))) := yy
              clear hv hN ea2 hac hy eg2 hgc X Y yy Pall Pgr
              go_upto_region 25 with fail
              go_loopw [66] (fun qv wr3 => ∃ (q : Nat), qv = .int .i64 q ∧ q ≤ N ∧ wr3 = wr) (fun qv _ => N - natOf qv)
              case atStart => exact ⟨0, rfl, Nat.zero_le _, rfl⟩
              case round =>
                obtain ⟨q, rfl, hq, rfl⟩ := hrel
                rcases Nat.eq_or_lt_of_le hq with rfl | hqlt
                · go_wp2_with fail
                  go_roundw
                  case rel => exact ⟨i2 + 1, by go_num, by omega, by trivial⟩
                  case measure => simp [natOf]; omega
                · obtain ⟨xb, xc, ex, xx⟩ := XX.it.cell (r90_at (k := i2) hqlt)
                  rw [r90_len] at ex
                  injection ex with ex1 ex2 ex3
                  subst ex1 ex3
                  clear ex2
                  have e99 : ((-100 - (i2 : Int)) != (-100 - (i2 : Int))) = false := by simp
                  go_wp2_with fail
                  go_roundw
                  case rel => exact ⟨q + 1, by go_num, by omega, by trivial⟩
                  case measure => simp [natOf]; omega
        · obtain ⟨v, hv⟩ : ∃ v, vs[k]? = some v := ⟨_, List.getElem?_eq_getElem (by rw [HJ.it]; exact hklt)⟩
          have Pall := P.it.all
          rw [← HJ.it] at Pall
          obtain ⟨ab, ac, ea, hac, cv⟩ := rowS_cell Pall hv
          injection ea with ea1 ea2 ea3
          subst ea1 ea3
          have X := P.it.xs k v hv
          obtain ⟨va, vc, ev, hvc⟩ := X.shape
          rw [r90_len] at ev hvc
          obtain ⟨N, hN⟩ : ∃ N, (f k).length = N := ⟨_, rfl⟩
          rw [hN] at ev hvc X
          have HN := Aside.mk hN
          subst ev
          have HV := Aside.mk hv
          have hNb : (N : Int) ≤ 2147483647 := by have := HL.it k hklt; omega
          have hjc : (i : Int) ≤ c := by have := HJ.it; omega
          have hu7 := wrap_smallA (c := 1000) (k := k) (by omega) (by omega)
          have hiM : (k : Int) ≤ 1000 := by omega
          have G0 : Aside (Gw own wr (.slice va N vc) (r90 N k) (.slice va (N + 0) vc) 0) := ⟨Grows.start X 98⟩
          clear hv hN ea2 hac X Pall
          go_upto_region 16 with fail
          clear cv
          go_loopw [9, 10] (fun gx qv wr => ∃ (q : Nat) (own : Nat → Nat) (xb : Option Addr) (xd : Nat), gx = .slice xb (N + q) xd ∧ qv = .int .i64 q ∧ q ≤ 64 ∧ Aside (Gw own wr (.slice va N vc) (r90 N k) (.slice xb (N + q) xd) q) ∧ Aside (Ap own0 w0 (.slice (some ⟨ab, 0, none⟩) i c) vs (fun k => r90 (f k).length k) (fun k => (f k).length) (.slice ga k gc) ys own wr)) (fun _ qv _ => 64 - natOf qv)
          case atStart => exact ⟨0, own, va, vc, rfl, rfl, by omega, G0, P⟩
          case round =>
            clear P G0
            obtain ⟨q, own, xb, xd, rfl, rfl, hq, G, P⟩ := hrel
            have X := P.it.xs k _ HV.it
            rw [HN.it] at X
            rcases Nat.eq_or_lt_of_le hq with h64 | h64
            · have h64' : ¬ (q : Int) < 64 := by omega
              have ho : (Value.slice va N vc).oneCell' = true := rfl
              obtain ⟨a5, c5, w5, own5, run5, X5, Y5, S5⟩ := X.appRun (t70 k) (by rw [r90_len]; omega)
              rw [r90_len] at run5 Y5
              have P5 : Aside (Ap own0 w0 (.slice (some ⟨ab, 0, none⟩) i c) vs (fun k => r90 (f k).length k) (fun k => (f k).length) (.slice ga k gc) ys own5 w5) := ⟨(P.it.at S5.it (by rw [HY.it]; exact Nat.le_refl _) HV.it X5.it).more (fun j _ => by split; (rename_i e; subst e; rw [HN.it]); rfl)⟩
              obtain ⟨a6, c6, w6, own6, run6, P6⟩ := P5.it.gpushRun (v := .slice a5 (N + 1) c5) (by rw [HY.it]; simp only [HN.it]; exact Y5.it) rfl (by rw [HY.it]; omega)
              rw [HY.it] at run6 P6
              have run5' : ∀ ty, (Builtin.append_ #[27, 27] ty #[.slice va N vc, .slice (some ⟨wr.heap.size, 0, none⟩) 1 1]).run Tryd.prog (wr.alloc (.cells #[.int .i64 (1000 + (k : Int))] 3)) = .ok (.slice a5 (N + 1) c5) w5 := run5
              have HY6 : Aside ((ys ++ [Value.slice a5 (N + 1) c5]).length = k + 1) := ⟨by rw [List.length_append, HY.it]; rfl⟩
              clear X X5 Y5 S5 P5 run5 P G h64
              go_wp2_with fail
              go_roundw
              case rel => exact ⟨k + 1, ys ++ [.slice a5 (N + 1) c5], own6, a6, c6, rfl, by go_num, by omega, HY6, P6⟩
              case measure => simp [natOf]; omega
            · have h64' : (q : Int) < 64 := by omega
              obtain ⟨a5, c5, w5, own5, run5, X5, G5, S5⟩ := Gw.run G.it X (by rw [r90_len]; omega) hq
              rw [r90_len] at run5 G5
              have P5 : Aside (Ap own0 w0 (.slice (some ⟨ab, 0, none⟩) i c) vs (fun k => r90 (f k).length k) (fun k => (f k).length) (.slice ga k gc) ys own5 w5) := ⟨(P.it.at S5.it (by rw [HY.it]; exact Nat.le_refl _) HV.it X5.it).more (fun j _ => by split; (rename_i e; subst e; rw [HN.it]); rfl)⟩
              have run5' : ∀ ty, (Builtin.append_ #[27, 27] ty #[.slice xb (N + q) xd, .slice (some ⟨wr.heap.size, 0, none⟩) 1 1]).run Tryd.prog (wr.alloc (.cells #[.int .i64 (-7)] 3)) = .ok (.slice a5 (N + (q + 1)) c5) w5 := run5
              clear X X5 S5 run5 P G h64
              go_wp2_with fail
              go_roundw
              case rel => exact ⟨q + 1, own5, a5, c5, rfl, by go_num, by omega, G5, P5⟩
              case measure => simp [natOf]; omega
    · obtain ⟨v, hv⟩ : ∃ v, vs[i]? = some v := ⟨_, List.getElem?_eq_getElem (by rw [HJ.it]; exact hilt)⟩
      have Pall := P.it.all
      rw [← HJ.it] at Pall
      obtain ⟨ab, ac, ea, hac, cv⟩ := rowS_cell Pall hv
      injection ea with ea1 ea2 ea3
      subst ea1 ea3
      obtain ⟨va, vc, ev, hvc⟩ := (P.it.xs i v hv).shape
      have ni : (f5 f i 0 i).length = (f i).length := f5_len f (Nat.zero_le _)
      rw [ni] at ev hvc
      obtain ⟨N, hN⟩ : ∃ N, (f i).length = N := ⟨_, rfl⟩
      rw [hN] at ev hvc
      have HN := Aside.mk hN
      subst ev
      have HV := Aside.mk hv
      have hNb : (N : Int) ≤ 2147483647 := by have := HL.it i hilt; omega
      have hjc : (j : Int) ≤ c := by have := HJ.it; omega
      have hu := wrap_small (c := -100) (k := i) (by omega) (by omega)
      have hiM : (i : Int) ≤ 1000 := by omega
      clear hv ni hN ea2 hac Pall
      go_upto_region 5 with fail
      clear cv
      go_loopw [23] (fun qv wr => ∃ (q : Nat) (own : Nat → Nat), qv = .int .i64 q ∧ q ≤ N ∧ Aside (Ap own0 w0 (.slice (some ⟨ab, 0, none⟩) j c) vs (f5 f i q) (fun k => (f k).length) (.slice none 0 0) [] own wr)) (fun qv _ => N - natOf qv)
      case atStart => exact ⟨0, own, rfl, Nat.zero_le _, P⟩
      case round =>
        clear P
        obtain ⟨q, own, rfl, hq, P⟩ := hrel
        rcases Nat.eq_or_lt_of_le hq with rfl | hqlt
        · have P2 : Aside (Ap own0 w0 (.slice (some ⟨ab, 0, none⟩) j c) vs (f5 f (i + 1) 0) (fun k => (f k).length) (.slice none 0 0) [] own wr) := ⟨P.it.more (fun k _ => by rw [← HN.it]; exact f5_all f i k)⟩
          clear P
          go_wp2_with fail
          go_roundw
          case rel => exact ⟨i + 1, own, by go_num, by omega, P2⟩
          case measure => simp [natOf]; omega
        · have X := P.it.xs i _ HV.it
          rw [f5_at] at X
          have pl : (part (-100 - (i : Int)) q (f i)).length = N := by rw [part_len (by rw [HN.it]; exact hq)]; exact HN.it
          obtain ⟨b, c', u0, e1, fz, ce, X2, S2⟩ := X.put (i := q) (by rw [pl]; exact hqlt) (-100 - (i : Int))
          rw [pl] at e1
          injection e1 with e1 _ e2
          subst e1 e2
          rw [part_step (by rw [HN.it]; exact hqlt)] at X2
          have P2 : Aside (Ap own0 w0 (.slice (some ⟨ab, 0, none⟩) j c) vs (f5 f i (q + 1)) (fun k => (f k).length) (.slice none 0 0) [] own (wr.setCell ⟨b, q, none⟩ (eI (-100 - (i : Int))))) := ⟨(P.it.at S2 (Nat.zero_le _) HV.it X2).more (fun k _ => f5_step f i q k)⟩
          clear X X2 S2 pl P
          go_wp2_with fail
          go_roundw
          case rel => exact ⟨q + 1, own, by go_num, by omega, P2⟩
          case measure => simp [natOf]; omega
end Go.Proofs.YtkmijhfimkcoiaaDoor
