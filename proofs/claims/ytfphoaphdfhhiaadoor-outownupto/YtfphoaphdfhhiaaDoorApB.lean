/-
  apart (laws 06, 19)
-/
import Derived.Test.YtfphoaphdfhhiaaDoorApA
namespace Go.Proofs.YtfphoaphdfhhiaaDoor
open Go.RowKit
attribute [-go_sem] Builtin.append_

def natA : Value → Nat | .int _ q => q.toNat | _ => 0
theorem b7_val (c i q : Nat) : b7 c i q = ((i : Int) * (c : Int) + (q : Int)) % 256 := by
  unfold b7
  rw [← Int.natCast_mul]
  omega
theorem b7_7 (i q : Nat) : b7 7 i q = ((i : Int) * 7 + (q : Int)) % 256 := b7_val 7 i q
theorem b7_11 (i q : Nat) : b7 11 i q = ((i : Int) * 11 + (q : Int)) % 256 := b7_val 11 i q
set_option maxRecDepth 20000 in
set_option maxHeartbeats 8000000 in
theorem apart_any {own0 : Nat → Nat} {w0 : World} {av : Value} {vs : List Value} (f : Nat → List Int) (h : OwR own0 5 w0 35 1 av vs.length vs) (hx : ∀ k v, vs[k]? = some v → XB own0 w0 k v (f k)) (hn : vs.length ≤ 1048576) (hl : ∀ k, k < vs.length → (f k).length ≤ 4398046511104) :
    Calls Tryd.prog 12 #[av] w0 fun e w' => e = .returned (.bool true) ∧ ∃ own', Aside (Sn Ia own0 w0 own' w') := by
  obtain ⟨w1, run1, G1, K1⟩ := makeL (own := own0) w0 vs.length (by omega)
  have s1 : Sn (fun _ => False) own0 w0 (give own0 w0.heap.size 97) w1 := Sn.quiet K1.it 97
  have P0 : Aside (Ap own0 w0 av vs (f7 f 0 0) (.slice (some ⟨w0.heap.size, 0, none⟩) vs.length vs.length) (List.replicate vs.length (Value.slice none 0 0)) 0 (give own0 w0.heap.size 97) w1) := ⟨⟨s1.mono (fun _ x => x.elim), h.sn s1 (fun x => x), fun k v e => by rw [f7_start]; exact (hx k v e).sn s1 (fun x => x), G1.it, fun k v y hk => by omega⟩⟩
  obtain ⟨a, c, rfl⟩ := slice_len h.1
  obtain ⟨j, hj⟩ : ∃ j, vs.length = j := ⟨_, rfl⟩
  have HYL : Aside ((List.replicate vs.length (Value.slice none 0 0)).length = j) := ⟨by rw [List.length_replicate, hj]⟩
  rw [hj] at hn hl P0 run1 HYL ⊢
  have HJ := Aside.mk hj
  have HL := Aside.mk hl
  have hjM : (j : Int) ≤ 1048576 := by omega
  generalize (List.replicate j (Value.slice none 0 0)) = ys0 at P0 HYL
  generalize give own0 w0.heap.size 97 = own1 at P0
  have hjc : j ≤ c := by
    rcases h.1.2 with ⟨e, h0⟩ | ⟨g, cap, cur, e, _, _, h1, _⟩
    · omega
    · injection e with _ _ e3; omega
  clear h hx hn hl hj G1 K1 s1
  go_enter Tryd.func12, Tryd.ntmps12
  go_upto_region 2 with fail
  clear run1
  generalize w0.heap.size = gb at P0 ⊢
  go_wp2_with fail
  go_loopw [4, 5] (fun iv _ wr => ∃ (i : Nat) (own : Nat → Nat), iv = .int .i64 i ∧ i ≤ j ∧ Aside (Ap own0 w0 (.slice a j c) vs (f7 f i 0) (.slice (some ⟨gb, 0, none⟩) j j) ys0 0 own wr)) (fun iv _ _ => j - natA iv)
  case atStart => exact ⟨0, own1, rfl, Nat.zero_le _, P0⟩
  case round =>
    clear P0
    obtain ⟨i, own, rfl, hi, P⟩ := hrel
    rcases Nat.eq_or_lt_of_le hi with rfl | hilt
    · have P0 : Aside (Ap own0 w0 (.slice a i c) vs (fun k => w7 7 k (f k).length) (.slice (some ⟨gb, 0, none⟩) i i) ys0 0 own wr) := ⟨P.it.more (fun k hk => f7_end f (by rw [HJ.it] at hk; exact hk))⟩
      clear P
      go_upto_region 9 with fail
      go_wp2_with fail
      go_loopw [6, 7, 8] (fun iv _ _ wr => ∃ (k : Nat) (ys : List Value) (own : Nat → Nat), iv = .int .i64 k ∧ k ≤ i ∧ Aside (ys.length = i) ∧ Aside (Ap own0 w0 (.slice a i c) vs (fun k => w7 7 k (f k).length) (.slice (some ⟨gb, 0, none⟩) i i) ys k own wr)) (fun iv _ _ _ => i - natA iv)
      case atStart => exact ⟨0, ys0, own, rfl, Nat.zero_le _, HYL, P0⟩
      case round =>
        clear P0
        obtain ⟨k, ys, own, rfl, hk, HY, P⟩ := hrel
        rcases Nat.eq_or_lt_of_le hk with rfl | hklt
        · go_upto_region 18 with fail
          go_wp2_with fail
          go_loopw [9, 10, 11, 12] (fun iv _ _ _ wr2 => ∃ (i2 : Nat), iv = .int .i64 i2 ∧ i2 ≤ k ∧ wr2 = wr) (fun iv _ _ _ _ => k - natA iv)
          case atStart => exact ⟨0, rfl, Nat.zero_le _, rfl⟩
          case round =>
            obtain ⟨i2, rfl, hi2, rfl⟩ := hrel
            rcases Nat.eq_or_lt_of_le hi2 with rfl | hi2lt
            · go_wp2_with fail
              go_ret
              exact ⟨rfl, own, ⟨P.it.s⟩⟩
            · obtain ⟨v, hv⟩ : ∃ v, vs[i2]? = some v := ⟨_, List.getElem?_eq_getElem (by rw [HJ.it]; exact hi2lt)⟩
              have Pall := P.it.all
              rw [← HJ.it] at Pall
              obtain ⟨ab, ac, ea, hac, cv⟩ := rowS_cell Pall hv
              rw [HJ.it] at ea
              injection ea with ea1 ea2 ea3
              subst ea1 ea3
              have X := P.it.xs i2 v hv
              obtain ⟨va, vc, ev, hvc⟩ := X.shape
              rw [w7_len] at ev hvc
              obtain ⟨y, hy⟩ : ∃ y, ys[i2]? = some y := ⟨_, List.getElem?_eq_getElem (by rw [HY.it]; exact hi2lt)⟩
              have Pgr := P.it.gr
              obtain ⟨gb2, gc', eg, hgc, cy⟩ := rowS_cell Pgr hy
              rw [HY.it] at eg
              injection eg with eg1 eg2 eg3
              injection eg1 with eg1
              injection eg1 with eg1
              subst eg1
              have Y := P.it.gs i2 v y hi2lt hv hy
              obtain ⟨N, hN⟩ : ∃ N, (f i2).length = N := ⟨_, rfl⟩
              have hNb : N ≤ 4398046511104 := by rw [← hN]; exact HL.it i2 hi2lt
              simp only [hN] at ev hvc X Y
              subst ev
              have XX := Aside.mk X
              have YY := Aside.mk Y
              obtain ⟨yb, yc, ey, hyc, _⟩ := Y.cell (j := 0) (by decide)
              rw [w7_len] at ey hyc
              subst ey
              have hiM : (i2 : Int) ≤ 1048576 := by omega
              have hNi : (N : Int) ≤ 4398046511104 := by omega
              clear hv hN ea2 hac hy eg2 eg3 hgc X Y Pall Pgr
              go_upto_region 22 with fail
              go_wp2_with fail
              go_loopw [11] (fun qv wr3 => ∃ (q : Nat), qv = .int .i64 q ∧ q ≤ N ∧ wr3 = wr) (fun qv _ => N - natA qv)
              case atStart => exact ⟨0, rfl, Nat.zero_le _, rfl⟩
              case round =>
                obtain ⟨q, rfl, hq, rfl⟩ := hrel
                rcases Nat.eq_or_lt_of_le hq with rfl | hqlt
                · go_upto_region 27 with fail
                  go_wp2_with fail
                  go_loopw [12] (fun rv wr4 => ∃ (r : Nat), rv = .int .i64 r ∧ r ≤ 40 ∧ wr4 = wr) (fun rv _ => 40 - natA rv)
                  case atStart => exact ⟨0, rfl, Nat.zero_le _, rfl⟩
                  case round =>
                    obtain ⟨r, rfl, hr, rfl⟩ := hrel
                    rcases Nat.eq_or_lt_of_le hr with rfl | hrlt
                    · go_wp2_with fail
                      go_roundw
                      case rel => exact ⟨i2 + 1, by go_num, by omega, by trivial⟩
                      case measure => simp [natA]; omega
                    · obtain ⟨yb2, yc2, ex, _, xx⟩ := YY.it.cell hrlt
                      rw [w7_len] at ex xx
                      injection ex with ex1 ex2 ex3
                      injection ex1 with ex1
                      injection ex1 with ex1
                      subst ex1
                      rw [b7_11] at xx
                      have hr' : (r : Int) < 40 := by omega
                      have e77 : ((((i2 : Int) * 11 + (r : Int)) % 256) != (((i2 : Int) * 11 + (r : Int)) % 256)) = false := by simp
                      obtain ⟨Q, hQ⟩ : ∃ Q, q + r = Q := ⟨_, rfl⟩
                      rw [hQ] at xx
                      have iy1 : (q : Int) + r = (Q : Int) := by omega
                      have iy2 : (Q : Int) < (q : Int) + 40 := by omega
                      have iy3 : (Q : Int) ≤ 9223372036854775807 := by omega
                      clear hQ
                      clear ex2 ex3
                      go_wp2_with fail
                      go_roundw
                      case rel => exact ⟨r + 1, by go_num, by omega, by trivial⟩
                      case measure => simp [natA]; omega
                · obtain ⟨xb, xc, ex, xx⟩ := XX.it.cell (w7_at (c := 7) (k := i2) hqlt)
                  rw [w7_len] at ex
                  injection ex with ex1 ex2 ex3
                  subst ex1 ex3
                  rw [b7_7] at xx
                  clear ex2
                  have e99 : ((((i2 : Int) * 7 + (q : Int)) % 256) != (((i2 : Int) * 7 + (q : Int)) % 256)) = false := by simp
                  go_wp2_with fail
                  go_roundw
                  case rel => exact ⟨q + 1, by go_num, by omega, by trivial⟩
                  case measure => simp [natA]; omega
        · obtain ⟨v, hv⟩ : ∃ v, vs[k]? = some v := ⟨_, List.getElem?_eq_getElem (by rw [HJ.it]; exact hklt)⟩
          have Pall := P.it.all
          rw [← HJ.it] at Pall
          obtain ⟨ab, ac, ea, hac, cv⟩ := rowS_cell Pall hv
          rw [HJ.it] at ea
          injection ea with ea1 ea2 ea3
          subst ea1 ea3
          have X := P.it.xs k v hv
          obtain ⟨va, vc, ev, hvc⟩ := X.shape
          rw [w7_len] at ev hvc
          obtain ⟨N, hN⟩ : ∃ N, (f k).length = N := ⟨_, rfl⟩
          rw [hN] at ev hvc X
          have HN := Aside.mk hN
          subst ev
          have HV := Aside.mk hv
          have hNb : N ≤ 4398046511104 := by rw [← hN]; exact HL.it k hklt
          have hkM : (k : Int) ≤ 1048576 := by omega
          have G0 : Aside (GB own wr k (.slice va N vc) (w7 7 k N) (.slice va (N + 0) vc) 0) := ⟨by
            have := Grows.start X (101 + 2 * k)
            exact this⟩
          clear hv hN ea2 hac X Pall
          go_upto_region 13 with fail
          clear cv
          go_wp2_with fail
          go_loopw [7, 8] (fun gx qv wr => ∃ (q : Nat) (own : Nat → Nat) (xb : Option Addr) (xd : Nat), gx = .slice xb (N + q) xd ∧ qv = .int .i64 q ∧ q ≤ 40 ∧ Aside (GB own wr k (.slice va N vc) (w7 7 k N) (.slice xb (N + q) xd) q) ∧ Aside (Ap own0 w0 (.slice (some ⟨ab, 0, none⟩) i c) vs (fun k => w7 7 k (f k).length) (.slice (some ⟨gb, 0, none⟩) i i) ys k own wr)) (fun _ qv _ => 40 - natA qv)
          case atStart => exact ⟨0, own, va, vc, rfl, rfl, by omega, G0, P⟩
          case round =>
            clear P G0
            obtain ⟨q, own, xb, xd, rfl, rfl, hq, G, P⟩ := hrel
            rcases Nat.eq_or_lt_of_le hq with h40 | h40
            · subst h40
              obtain ⟨sb, sc, u0, es, hsc, fz, ce, P5⟩ := P.it.store (v := .slice va N vc) (y := .slice xb (N + 40) xd) (by rw [HY.it]; exact hklt) HV.it (by simp only [HN.it]; exact G.it)
              rw [HY.it] at es
              injection es with es1 es2 es3
              injection es1 with es1
              injection es1 with es1
              subst es1
              have P5 := Aside.mk P5
              have HY5 : Aside ((ys.set k (Value.slice xb (N + 40) xd)).length = i) := ⟨by rw [List.length_set]; exact HY.it⟩
              clear es2 es3 hsc P G
              go_wp2_with fail
              go_roundw
              case rel => exact ⟨k + 1, _, own, by go_num, by omega, HY5, P5⟩
              case measure => simp [natA]; omega
            · have h40' : (q : Int) < 40 := by omega
              have X := P.it.xs k _ HV.it
              simp only [HN.it] at X
              obtain ⟨a5, c5, w5, own5, run5, X5, G5, S5⟩ := GB.run G.it X (by rw [w7_len]; omega) (by omega) _ (b7_11 k q)
              rw [w7_len] at run5 G5
              have P5 : Aside (Ap own0 w0 (.slice (some ⟨ab, 0, none⟩) i c) vs (fun k => w7 7 k (f k).length) (.slice (some ⟨gb, 0, none⟩) i i) ys k own5 w5) := ⟨(P.it.at S5.it (Nat.le_refl _) HV.it X5.it).more (fun j _ => by split; (rename_i e; subst e; rw [HN.it]); rfl)⟩
              clear X X5 S5 P G h40
              go_wp2_with fail
              go_roundw
              case rel => exact ⟨q + 1, own5, a5, c5, rfl, by go_num, by omega, G5, P5⟩
              case measure => simp [natA]; omega
    · obtain ⟨v, hv⟩ : ∃ v, vs[i]? = some v := ⟨_, List.getElem?_eq_getElem (by rw [HJ.it]; exact hilt)⟩
      have Pall := P.it.all
      rw [← HJ.it] at Pall
      obtain ⟨ab, ac, ea, hac, cv⟩ := rowS_cell Pall hv
      rw [HJ.it] at ea
      injection ea with ea1 ea2 ea3
      subst ea1 ea3
      obtain ⟨va, vc, ev, hvc⟩ := (P.it.xs i v hv).shape
      have ni : (f7 f i 0 i).length = (f i).length := f7_len f (Nat.zero_le _)
      rw [ni] at ev hvc
      obtain ⟨N, hN⟩ : ∃ N, (f i).length = N := ⟨_, rfl⟩
      rw [hN] at ev hvc
      have HN := Aside.mk hN
      subst ev
      have HV := Aside.mk hv
      have hNb : N ≤ 4398046511104 := by rw [← hN]; exact HL.it i hilt
      have hNi : (N : Int) ≤ 4398046511104 := by omega
      have hiM : (i : Int) ≤ 1048576 := by omega
      clear hv ni hN ea2 hac Pall cv
      go_upto_region 5 with fail
      go_wp2_with fail
      go_loopw [5] (fun qv wr => ∃ (q : Nat) (own : Nat → Nat), qv = .int .i64 q ∧ q ≤ N ∧ Aside (Ap own0 w0 (.slice (some ⟨ab, 0, none⟩) j c) vs (f7 f i q) (.slice (some ⟨gb, 0, none⟩) j j) ys0 0 own wr)) (fun qv _ => N - natA qv)
      case atStart => exact ⟨0, own, rfl, Nat.zero_le _, P⟩
      case round =>
        clear P
        obtain ⟨q, own, rfl, hq, P⟩ := hrel
        have Pall := P.it.all
        rw [← HJ.it] at Pall
        obtain ⟨ab2, ac2, ea, hac, cv⟩ := rowS_cell Pall HV.it
        rw [HJ.it] at ea
        injection ea with ea1 ea2 ea3
        injection ea1 with ea1
        injection ea1 with ea1
        subst ea1
        clear ea2 ea3 hac Pall
        rcases Nat.eq_or_lt_of_le hq with rfl | hqlt
        · have P2 : Aside (Ap own0 w0 (.slice (some ⟨ab, 0, none⟩) j c) vs (f7 f (i + 1) 0) (.slice (some ⟨gb, 0, none⟩) j j) ys0 0 own wr) := ⟨P.it.more (fun k _ => by rw [← HN.it]; exact f7_all f i k)⟩
          clear P
          go_wp2_with fail
          go_roundw
          case rel => exact ⟨i + 1, own, by go_num, by omega, P2⟩
          case measure => simp [natA]; omega
        · have X := P.it.xs i _ HV.it
          rw [f7_at] at X
          have pl : (part i q (f i)).length = N := by rw [part_len (by rw [HN.it]; exact hq)]; exact HN.it
          obtain ⟨b, c', u0, ee, fz, ce, X2, S2⟩ := X.put (i := q) (by rw [pl]; exact hqlt) (b7 7 i q)
          rw [pl] at ee
          injection ee with ee1 ee2 ee3
          subst ee1 ee3
          clear ee2
          rw [part_step (by rw [HN.it]; exact hqlt)] at X2
          have P2 : Aside (Ap own0 w0 (.slice (some ⟨ab, 0, none⟩) j c) vs (f7 f i (q + 1)) (.slice (some ⟨gb, 0, none⟩) j j) ys0 0 own (wr.setCell ⟨b, q, none⟩ (eB (b7 7 i q)))) := ⟨(P.it.at S2 (Nat.zero_le _) HV.it X2).more (fun k _ => f7_step f i q k)⟩
          rw [b7_7] at P2
          clear X X2 S2 pl P
          go_wp2_with fail
          go_roundw
          case rel => exact ⟨q + 1, own, by go_num, by omega, P2⟩
          case measure => simp [natA]; omega
end Go.Proofs.YtfphoaphdfhhiaaDoor
