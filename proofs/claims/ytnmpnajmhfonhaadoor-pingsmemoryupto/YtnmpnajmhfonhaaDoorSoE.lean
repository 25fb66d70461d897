/-
  slices.Sort of numbers of 32 bits: choosePivot
-/
import Derived.Test.YtnmpnajmhfonhaaDoorSoD
namespace Go.Proofs.YtnmpnajmhfonhaaDoor
open Go.RowKit Go.Sort

set_option maxHeartbeats 1000000 in
theorem pivot32 (g off cap a n : Nat) (d : Array Nat) (w : World) (h : Ro w g off cap d) (hn : 12 < n) (hb : a + n ≤ d.size) (hs : d.size ≤ 4611686018427387903) :
    Calls Tryd.prog 50 #[.slice (some ⟨g, off, none⟩) d.size cap, .int .i64 a, .int .i64 (a + n : Nat)] w fun e w' =>
      ∃ p hint : Nat, e = .returned (.tuple #[.int .i64 p, .int .i64 hint]) ∧ a ≤ p ∧ p < a + n ∧ hint ≤ 2 ∧ Aside (Keeps Nowhere w w') := by
  obtain ⟨N, hN⟩ : ∃ N, d.size = N := ⟨_, rfl⟩
  obtain ⟨b, hbn⟩ : ∃ b, a + n = b := ⟨_, rfl⟩
  have H := Aside.mk h
  have HN := Aside.mk hN
  rw [hbn] at hb ⊢
  rw [hN] at hb hs ⊢
  obtain ⟨m, hm⟩ : ∃ m : Nat, n / 4 = m := ⟨_, rfl⟩
  obtain ⟨j, hj⟩ : ∃ j : Nat, a + m * 2 = j := ⟨_, rfl⟩
  obtain ⟨i, hi⟩ : ∃ i : Nat, a + m = i := ⟨_, rfl⟩
  obtain ⟨k, hk⟩ : ∃ k : Nat, a + m * 3 = k := ⟨_, rfl⟩
  have e0 : (b : Int) - a = n := by omega
  have e1 : (n : Int).tdiv 4 = m := by rw [Int.tdiv_eq_ediv_of_nonneg (by omega)]; omega
  have e2 : (a : Int) + m = i := by omega
  have e3 : (a : Int) + m * 2 = j := by omega
  have e4 : (a : Int) + m * 3 = k := by omega
  have e5 : (m : Int) * 2 ≤ 4611686018427387903 := by omega
  have e6 : (m : Int) * 3 ≤ 4611686018427387903 := by omega
  have e7 : (8 : Int) ≤ n := by omega
  have HI := Aside.mk (show 1 + a ≤ i ∧ i + 1 < b ∧ 1 + a ≤ j ∧ j + 1 < b ∧ 1 + a ≤ k ∧ k + 1 < b by omega)
  have K0 := Aside.mk ((Keeps.refl Nowhere w).alloc (.cells #[.int .i64 0] 3))
  have S0 : Aside (Sw (w.alloc (.cells #[.int .i64 0] 3)) w.heap.size 0 (w.alloc (.cells #[.int .i64 0] 3))) := ⟨⟨0, Nat.le_refl _, Cells.new w _ _⟩, Keeps.refl _ _⟩
  have R0 := Aside.mk (h.later K0.it (fun x => x))
  have hg := R0.it.ne S0.it.c.choose_spec.2
  have hBW : Aside (∀ W', Keeps (fun k => k = w.heap.size) (w.alloc (.cells #[.int .i64 0] 3)) W' → Keeps Nowhere w W') := ⟨fun W' hk => K0.it.next hk (fun k e hlt => by omega)⟩
  have hnn : (n : Int) ≤ 4611686018427387903 := by omega
  have hnk : (k : Int) ≤ 4611686018427387903 ∧ (i : Int) ≤ 4611686018427387903 ∧ (j : Int) ≤ 4611686018427387903 := by omega
  obtain ⟨hnk, hni, hnj⟩ := hnk
  clear h hN hbn hm hi hj hk
  go_enter Tryd.func50, Tryd.ntmps50
  go_upto_if 34 with fail
  generalize w.alloc (.cells #[.int .i64 0] 3) = W0 at K0 S0 R0 hBW ⊢
  generalize w.heap.size = sb at S0 hg hBW ⊢
  go_cut [10, 11, 12] (fun vi vj vk wx => ∃ i' j' k' : Nat, vi = .int .i64 i' ∧ vj = .int .i64 j' ∧ vk = .int .i64 k' ∧ Aside (a ≤ i' ∧ i' < b ∧ a ≤ j' ∧ j' < b ∧ a ≤ k' ∧ k' < b) ∧ Aside (Sw W0 sb 9 wx))
  case first =>
    by_cases h50 : 50 ≤ n
    · have C1 := Aside.mk (adj32 g off cap i sb 0 d W0 R0.it (by have := HI.it; omega) (by have := HI.it; rw [HN.it]; omega) (by rw [HN.it]; exact hs) S0.it hg (by omega))
      rw [HN.it] at C1
      go_wp2_with fail
      refine C1.it.mono ?_
      rintro e w1 ⟨i', rfl, S1, p1⟩
      have C2 := Aside.mk (adj32 g off cap j sb 3 d w1 (R0.it.later S1.it.k (by exact hg)) (by have := HI.it; omega) (by have := HI.it; rw [HN.it]; omega) (by rw [HN.it]; exact hs) S1.it.self hg (by omega))
      rw [HN.it] at C2
      go_wp2_with fail
      refine C2.it.mono ?_
      rintro e w2 ⟨j', rfl, S2, p2⟩
      have T2 := Aside.mk (S1.it.trans S2.it)
      have C3 := Aside.mk (adj32 g off cap k sb 6 d w2 (R0.it.later T2.it.k (by exact hg)) (by have := HI.it; omega) (by have := HI.it; rw [HN.it]; omega) (by rw [HN.it]; exact hs) S2.it.self hg (by omega))
      rw [HN.it] at C3
      go_wp2_with fail
      refine C3.it.mono ?_
      rintro e w3 ⟨k', rfl, S3, p3⟩
      go_wp2_with fail
      go_meet
      case rel =>
        have := HI.it
        exact ⟨i', j', k', rfl, rfl, rfl, ⟨by omega⟩, ⟨T2.it.trans S3.it⟩⟩
    · have h50' : ¬ (50 : Int) ≤ n := by omega
      go_wp2_with fail
      go_meet
      case rel =>
        have := HI.it
        obtain ⟨⟨s, hs0, hc⟩, hk⟩ := S0.it
        exact ⟨i, j, k, rfl, rfl, rfl, ⟨by omega⟩, ⟨⟨s, by omega, hc⟩, hk⟩⟩
  case rest =>
    obtain ⟨i', j', k', rfl, rfl, rfl, B, S⟩ := hcut
    have C := Aside.mk (median32 g off cap i' j' k' sb 9 d wc (R0.it.later S.it.k (by exact hg)) (by have := B.it; rw [HN.it]; omega) (by have := B.it; rw [HN.it]; omega) (by have := B.it; rw [HN.it]; omega) S.it.self hg (by omega))
    rw [HN.it] at C
    go_wp2_with fail
    refine C.it.mono ?_
    rintro e w1 ⟨p, rfl, S1, p1⟩
    have hp : a ≤ p ∧ p < b := by have := B.it; omega
    obtain ⟨⟨s, hs2, hc⟩, hk⟩ := S.it.trans S1.it
    have y0 : w1.cell? ⟨sb, 0, none⟩ = some (.int .i64 s) := by rw [hc.cell]; rfl
    have KK := Aside.mk (hBW.it _ hk)
    clear hc hk C S S1 S0 R0 hBW B HI
    by_cases s0 : s = 0
    · subst s0
      go_wp2_with fail
      go_returns
      exact ⟨p, 1, rfl, hp.1, by omega, by omega, KK⟩
    · have s0' : ((s : Int) == 0) = false := by simp; omega
      by_cases s12 : s = 12
      · subst s12
        go_wp2_with fail
        go_returns
        exact ⟨p, 2, rfl, hp.1, by omega, by omega, KK⟩
      · have s12' : ((s : Int) == 12) = false := by simp; omega
        go_wp2_with fail
        go_returns
        exact ⟨p, 0, rfl, hp.1, by omega, by omega, KK⟩
end Go.Proofs.YtnmpnajmhfonhaaDoor
