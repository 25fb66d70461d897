/-
  slices.Sort of numbers of 32 bits: breakPatterns
-/
import Derived.Test.YtnmpnajmhfonhaaDoorSoB
import Derived.Test.YtnmpnajmhfonhaaDoorShelf
import Derived.BigRegion
import Derived.Handy
import Derived.Deep.DeepCutAuto
import Derived.Laws.BitsAllLaws
import Derived.Lib.BitFns
namespace Go.Proofs.YtnmpnajmhfonhaaDoor
open Go.RowKit Go.Sort

theorem xor_in (a b : Int) (h1 : 0 ≤ a) (h2 : a ≤ 18446744073709551615) (h3 : 0 ≤ b) (h4 : b ≤ 18446744073709551615) : ∃ Y : Int, bits .xor .u64 a b = Y ∧ 0 ≤ Y ∧ Y ≤ 18446744073709551615 := by
  refine ⟨_, u64_xor a b h1 (by omega) h3 (by omega), by omega, ?_⟩
  have : a.toNat ^^^ b.toNat < 2 ^ 64 := Nat.xor_lt_two_pow (by omega) (by omega)
  omega
theorem and_in (a : Int) (M : Nat) (h1 : 0 ≤ a) (h2 : a ≤ 18446744073709551615) (h3 : 0 < M) (h4 : M ≤ 18446744073709551615) : ∃ o : Nat, bits .and .u64 a ((M : Int) - 1) = o ∧ o < M := by
  refine ⟨_, u64_and a _ h1 (by omega) (by omega) (by omega), ?_⟩
  have : a.toNat &&& ((M : Int) - 1).toNat ≤ ((M : Int) - 1).toNat := Nat.and_le_right
  omega
theorem wrap64_in (x : Int) : ∃ y : Int, IntKind.u64.wrap x = y ∧ 0 ≤ y ∧ y ≤ 18446744073709551615 := by
  refine ⟨_, rfl, ?_⟩
  simp only [IntKind.wrap, IntKind.bits, IntKind.signed]
  simp
  omega

theorem bitLen_two : ∀ (n x : Nat), x ≤ n → x < 2 ^ 64 → x < 2 ^ Lib.bitLen x ∧ (0 < x → 2 ^ Lib.bitLen x ≤ 2 * x) := by
  intro n
  induction n with
  | zero =>
    intro x hx _
    obtain rfl : x = 0 := by omega
    have e : Lib.bitLen 0 = 0 := by decide
    rw [e]
    exact ⟨by decide, fun h => by omega⟩
  | succ n ih =>
    intro x hx h64
    by_cases h0 : x = 0
    · exact ih x (by omega) h64
    · rw [Lib.bitLen_half x h0 h64, Nat.pow_add, Nat.pow_one]
      obtain ⟨h1, h2⟩ := ih (x / 2) (by omega) (by omega)
      refine ⟨by omega, fun _ => ?_⟩
      by_cases h3 : x / 2 = 0
      · have e : Lib.bitLen 0 = 0 := by decide
        rw [h3, e]
        omega
      · have := h2 (by omega)
        omega
theorem wrap_pow (k : Nat) (hk : k ≤ 63) : IntKind.u64.wrap ((2 : Int) ^ k) = ((2 ^ k : Nat) : Int) := by
  have h1 : (2 : Nat) ^ k ≤ 2 ^ 63 := Nat.pow_le_pow_right (by decide) hk
  have h2 : ((2 : Int) ^ k) = ((2 ^ k : Nat) : Int) := by simp
  rw [h2]
  generalize (2 : Nat) ^ k = m at h1
  simp only [IntKind.wrap, IntKind.bits, IntKind.signed]
  simp
  omega

set_option maxHeartbeats 1000000 in
theorem next32 (r : Nat) (w : World) (X : Int) (T : TypeId) (hc : Cells w r T [.int .u64 X]) (h0 : 0 ≤ X) (h1 : X ≤ 18446744073709551615) :
    Calls Tryd.prog 60 #[ptr r] w fun e w' => ∃ Y : Int, e = .returned (.int .u64 Y) ∧ 0 ≤ Y ∧ Y ≤ 18446744073709551615 ∧ Aside (Cells w' r T [.int .u64 Y]) ∧ Aside (Keeps (fun k => k = r) w w') := by
  have y0 : w.cell? ⟨r, 0, none⟩ = some (.int .u64 X) := by rw [hc.cell]; rfl
  have z0 := hc.frozen 0
  obtain ⟨s1, hs1, hs2, hs3⟩ := wrap64_in (X * 8192)
  obtain ⟨X1, hx1, hx2, hx3⟩ := xor_in X s1 h0 h1 hs2 hs3
  have C0 := Aside.mk hc
  clear hc
  go_enter Tryd.func60, Tryd.ntmps60
  go_wp2_with fail
  go_region
  all_goals go_wp2_with fail
  have K1 := Aside.mk (((Keeps.refl (fun k => k = r) w).setCell ⟨r, 0, none⟩ (.int .u64 X1) (fun _ => rfl)).drew)
  have C1 := Aside.mk ((C0.it.setCell 0 (.int .u64 X1)).drew)
  generalize (w.setCell ⟨r, 0, none⟩ (.int .u64 X1)).drew = w1 at K1 C1 ⊢
  have y1 : w1.cell? ⟨r, 0, none⟩ = some (.int .u64 X1) := by rw [C1.it.cell]; rfl
  have z1 := C1.it.frozen 0
  obtain ⟨s2, hs4, hs5, hs6⟩ : ∃ s2 : Int, X1 / 128 = s2 ∧ 0 ≤ s2 ∧ s2 ≤ 18446744073709551615 := ⟨_, rfl, by omega, by omega⟩
  obtain ⟨X2, hx4, hx5, hx6⟩ := xor_in X1 s2 hx2 hx3 hs5 hs6
  clear hx1 hs1 y0 z0
  go_region
  all_goals go_wp2_with fail
  have K2 := Aside.mk ((K1.it.setCell ⟨r, 0, none⟩ (.int .u64 X2) (fun _ => rfl)).drew)
  have C2 := Aside.mk ((C1.it.setCell 0 (.int .u64 X2)).drew)
  generalize (w1.setCell ⟨r, 0, none⟩ (.int .u64 X2)).drew = w2 at K2 C2 ⊢
  have y2 : w2.cell? ⟨r, 0, none⟩ = some (.int .u64 X2) := by rw [C2.it.cell]; rfl
  have z2 := C2.it.frozen 0
  obtain ⟨s3, hs7, hs8, hs9⟩ := wrap64_in (X2 * 131072)
  obtain ⟨X3, hx7, hx8, hx9⟩ := xor_in X2 s3 hx5 hx6 hs8 hs9
  clear hx4 hs4 y1 z1
  go_region
  all_goals go_wp2_with fail
  have K3 := Aside.mk ((K2.it.setCell ⟨r, 0, none⟩ (.int .u64 X3) (fun _ => rfl)).drew)
  have C3 := Aside.mk ((C2.it.setCell 0 (.int .u64 X3)).drew)
  generalize (w2.setCell ⟨r, 0, none⟩ (.int .u64 X3)).drew = w3 at K3 C3 ⊢
  have y3 : w3.cell? ⟨r, 0, none⟩ = some (.int .u64 X3) := by rw [C3.it.cell]; rfl
  go_wp2
  go_ret
  exact ⟨X3, rfl, hx8, hx9, C3, K3⟩

theorem bitLen_le (n : Nat) (hn : n ≤ 4611686018427387903) (h0 : 0 < n) : Lib.bitLen n ≤ 62 := by
  obtain ⟨_, h2⟩ := bitLen_two n n (Nat.le_refl _) (by omega)
  have h3 := h2 h0
  rcases Nat.lt_or_ge 62 (Lib.bitLen n) with h | h
  · have h4 : (2 : Nat) ^ 63 ≤ 2 ^ Lib.bitLen n := Nat.pow_le_pow_right (by decide) h
    have e : (2 : Nat) ^ 63 = 9223372036854775808 := by decide
    omega
  · exact h
theorem pow32 (n : Nat) (h0 : 0 < n) (hn : n ≤ 4611686018427387903) (w : World) :
    Calls Tryd.prog 59 #[.int .i64 n] w fun e w' => ∃ M : Nat, e = .returned (.int .u64 M) ∧ w' = w ∧ n < M ∧ M ≤ 2 * n := by
  have L : Aside (Calls Tryd.prog 45 #[.int .u64 (n : Int)] w fun e w' => e = .returned (.int .i64 (Lib.bitLen n : Nat)) ∧ w' = w) := ⟨by
    have h := Tryd.bits_Len (n : Int) w (by omega) (by omega)
    rwa [Int.toNat_natCast] at h⟩
  have hk := bitLen_le n hn h0
  have hp := wrap_pow (Lib.bitLen n) (by omega)
  have hu : IntKind.u64.wrap (n : Int) = n := by simp [IntKind.wrap, IntKind.bits, IntKind.signed]; omega
  obtain ⟨h1, h2⟩ := bitLen_two n n (Nat.le_refl _) (by omega)
  have HM := Aside.mk (And.intro h1 (h2 h0))
  generalize Lib.bitLen n = l at *
  clear h1 h2
  go_enter Tryd.func59, Tryd.ntmps59
  go_wp2_with (first | (go_at_call 45; refine L.it.mono ?_; rintro e w' ⟨rfl, rfl⟩))
  go_ret
  exact ⟨2 ^ l, rfl, rfl, HM.it.1, HM.it.2⟩

set_option maxHeartbeats 2000000 in
theorem break32 (g off cap a n : Nat) (d : Array Nat) (w : World) (h : Ro w g off cap d) (hn : 12 < n) (hb : a + n ≤ d.size) (hs : d.size ≤ 4611686018427387903) :
    Calls Tryd.prog 49 #[.slice (some ⟨g, off, none⟩) d.size cap, .int .i64 a, .int .i64 (a + n : Nat)] w fun e w' =>
      e = .returned (.tuple #[]) ∧ ∃ d', Aside (PermIn a (a + n) d d' ∧ So w g off cap d' w') := by
  obtain ⟨N, hN⟩ : ∃ N, d.size = N := ⟨_, rfl⟩
  obtain ⟨b, hbn⟩ : ∃ b, a + n = b := ⟨_, rfl⟩
  have H := Aside.mk h
  have HN := Aside.mk hN
  have hcap : N ≤ cap := hN ▸ h.le
  rw [hbn] at hb ⊢
  rw [hN] at hb hs ⊢
  obtain ⟨m, hm⟩ : ∃ m : Nat, n / 4 = m := ⟨_, rfl⟩
  obtain ⟨c, hc⟩ : ∃ c : Nat, a + m * 2 = c + 1 := ⟨a + m * 2 - 1, by omega⟩
  have e0 : (b : Int) - a = n := by omega
  have e1 : (n : Int).tdiv 4 = m := by rw [Int.tdiv_eq_ediv_of_nonneg (by omega)]; omega
  have e3 : (a : Int) + m * 2 = c + 1 := by omega
  have e5 : (m : Int) * 2 ≤ 4611686018427387903 := by omega
  have e7 : (8 : Int) ≤ n := by omega
  have e8 : (c : Int) ≤ 4611686018427387903 := by omega
  have hc1 : c + 2 < b ∧ a ≤ c := by omega
  obtain ⟨hc1, hc2⟩ := hc1
  have hu : IntKind.u64.wrap (n : Int) = n := by simp [IntKind.wrap, IntKind.bits, IntKind.signed]; omega
  have PW := Aside.mk (pow32 n (by omega) (by omega) (w.alloc (.cells #[.int .u64 (n : Int)] 115)))
  have S0 := Aside.mk ((So.refl h).alloc (.cells #[.int .u64 (n : Int)] 115))
  have C0 := Aside.mk (Cells.new w 115 [.int .u64 (n : Int)])
  have hgw := h.lt
  have HBN := Aside.mk hbn
  have hnn : (n : Int) ≤ 4611686018427387903 := by omega
  clear h hN hm hc hbn
  go_enter Tryd.func49, Tryd.ntmps49
  go_wp2_with fail
  refine PW.it.mono ?_
  rintro e w1 ⟨M, rfl, rfl, hM1, hM2⟩
  generalize w.alloc (.cells #[.int .u64 (n : Int)] 115) = W0 at S0 C0 ⊢
  obtain ⟨r, hr⟩ : ∃ r, w.heap.size = r := ⟨_, rfl⟩
  rw [hr] at C0 hgw ⊢
  have HR := Aside.mk hr
  have hrg : ¬ g = r := by omega
  clear hr PW
  go_wp2_with fail
  go_loopw [9] (fun vi wr => ∃ (i : Nat) (dk : Array Nat) (X : Int), vi = .int .i64 i ∧ c ≤ i ∧ i ≤ c + 3 ∧ dk.size = N ∧ PermIn a b d dk ∧ So w g off cap dk wr ∧ Cells wr r 115 [.int .u64 X] ∧ 0 ≤ X ∧ X ≤ 18446744073709551615) (fun vi _ => c + 3 - natOf vi)
  case atStart => exact ⟨c, d, n, by first | rfl | (congr 1; omega), Nat.le_refl _, by omega, HN.it, permIn_refl _ _ _, S0.it, C0.it, by omega, by omega⟩
  case round =>
    obtain ⟨i, dk, X, rfl, hci, hic, hsk, hP, hS, hX, hX0, hX1⟩ := hrel
    have HP := Aside.mk hP
    have HS := Aside.mk hS
    have HSK := Aside.mk hsk
    have NX := Aside.mk (next32 r wr X 115 hX hX0 hX1)
    clear hP hS hsk hX hX0 hX1
    by_cases hle : i ≤ c + 2
    · have hle' : (i : Int) ≤ c + 1 + 1 := by omega
      go_upto_region 7 with fail
      go_wp2_with fail
      refine NX.it.mono ?_
      rintro e w2 ⟨Y, rfl, hY0, hY1, CY, KY⟩
      obtain ⟨o, ho1, ho2⟩ := and_in Y M hY0 hY1 (by omega) (by omega)
      have S2 := Aside.mk (HS.it.other KY.it (by exact hrg) (fun k e => by have := HR.it; omega))
      obtain ⟨G, HG, hcw, hfw⟩ := S2.it.r.names HSK.it
      go_upto_if 43 with fail
      go_cut [10] from 26 to 64 (fun v wx => ∃ o : Nat, v = .int .i64 o ∧ o < n ∧ wx = w2)
      case first =>
        by_cases hon : n ≤ o
        · have hon' : (n : Int) ≤ o := by omega
          go_wp2_with fail
          go_meet
          case rel => exact ⟨o - n, by congr 1; omega, by omega, rfl⟩
        · have hon' : ¬ (n : Int) ≤ o := by omega
          go_wp2_with fail
          go_meet
          case rel => exact ⟨o, rfl, by omega, rfl⟩
      case rest =>
      obtain ⟨o', rfl, ho', rfl⟩ := hcut
      clear ho1
      obtain ⟨x, hx⟩ : ∃ x, a + o' = x := ⟨_, rfl⟩
      have ex : (a : Int) + o' = x := by omega
      have hxb : x < b ∧ a ≤ x := by have := HBN.it; omega
      obtain ⟨hx1, hx2⟩ := hxb
      clear hx
      have FIN : Aside (∀ y, y < b → a ≤ y → ∃ (i' : Nat) (dk' : Array Nat) (X' : Int), Value.int .i64 ((i : Int) + 1) = .int .i64 i' ∧ c ≤ i' ∧ i' ≤ c + 3 ∧ dk'.size = N ∧ PermIn a b d dk' ∧ So w g off cap dk' ((wc.drew.setCell ⟨g, off + i, none⟩ (e32 (G y))).setCell ⟨g, off + y, none⟩ (e32 (G i))) ∧ Cells ((wc.drew.setCell ⟨g, off + i, none⟩ (e32 (G y))).setCell ⟨g, off + y, none⟩ (e32 (G i))) r 115 [.int .u64 X'] ∧ 0 ≤ X' ∧ X' ≤ 18446744073709551615) := ⟨fun y hy1 hy2 => by
        refine ⟨i + 1, swp dk i y, Y, by go_num, by omega, by omega, by rw [size_swp]; exact HSK.it, permIn_trans _ _ _ a b HP.it (swp_permIn dk a b i y (by omega) (by omega) hy2 hy1 (by rw [HSK.it]; exact hb)), ?_, (((CY.it.drew).setOther _ _ (fun e => hrg e.symm)).setOther _ _ (fun e => hrg e.symm)), hY0, hY1⟩
        have := S2.it.drew.swap i y (by rw [HSK.it]; omega) (by rw [HSK.it]; omega)
        simp only [← HG.it] at this
        exact this⟩
      rcases Nat.lt_trichotomy i x with hlt | rfl | hlt
      all_goals
        go_wp2_with fail
        go_region
        all_goals go_wp2
      all_goals
        go_roundw
        case rel => exact FIN.it _ hx1 hx2
        case measure => simp [natOf]; omega
    · have hle' : ¬ (i : Int) ≤ c + 1 + 1 := by omega
      go_wp2
      go_end0
      exact ⟨rfl, dk, ⟨HP.it, HS.it⟩⟩
end Go.Proofs.YtnmpnajmhfonhaaDoor
