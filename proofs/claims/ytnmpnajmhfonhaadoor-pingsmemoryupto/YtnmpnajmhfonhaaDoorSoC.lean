/-
  slices.Sort of numbers of 32 bits: siftDown, heapSort
-/
import Derived.Test.YtnmpnajmhfonhaaDoorSoB
import Derived.BigRegion
import Derived.Handy
import Derived.Deep.DeepCutAuto
namespace Go.Proofs.YtnmpnajmhfonhaaDoor
open Go.RowKit Go.Sort

section
variable {α : Type} [Inhabited α] (lt : α → α → Bool)
/-- the greater child -/
def chld (lt : α → α → Bool) (hi first root : Nat) (d : Array α) : Nat := if 2 * root + 1 + 1 < hi && lt d[first + (2 * root + 1)]! d[first + (2 * root + 1) + 1]! then 2 * root + 2 else 2 * root + 1
theorem sift_end (hi first root : Nat) (d : Array α) (h : hi ≤ 2 * root + 1) : siftDown lt hi first root d = d := by rw [siftDown, dif_pos h]
theorem sift_stop (hi first root : Nat) (d : Array α) (h : ¬ hi ≤ 2 * root + 1) (hl : lt d[first + root]! d[first + chld lt hi first root d]! = false) : siftDown lt hi first root d = d := by
  rw [siftDown, dif_neg h]
  unfold chld at hl
  split
  · rename_i hc
    rw [if_pos hc] at hl
    simp [hl]
  · rename_i hc
    rw [if_neg hc] at hl
    simp [hl]
theorem sift_go (hi first root : Nat) (d : Array α) (h : ¬ hi ≤ 2 * root + 1) (hl : lt d[first + root]! d[first + chld lt hi first root d]! = true) :
    siftDown lt hi first root d = siftDown lt hi first (chld lt hi first root d) (swp d (first + root) (first + chld lt hi first root d)) := by
  conv => lhs; rw [siftDown, dif_neg h]
  unfold chld at hl ⊢
  split
  · rename_i hc
    rw [if_pos hc] at hl
    have h2 : 2 * root + 2 < hi := by simp only [Bool.and_eq_true, decide_eq_true_eq] at hc; omega
    simp [hl, h2]
  · rename_i hc
    rw [if_neg hc] at hl
    simp [hl]
end

set_option maxHeartbeats 1000000 in
theorem sift32 (g off cap lo hi first : Nat) (d : Array Nat) (w : World) (h : Ro w g off cap d) (hb : first + hi ≤ d.size) (hl : lo ≤ hi) (hs : d.size ≤ 4611686018427387903) :
    Calls Tryd.prog 58 #[.slice (some ⟨g, off, none⟩) d.size cap, .int .i64 lo, .int .i64 hi, .int .i64 first] w fun e w' =>
      e = .returned (.tuple #[]) ∧ Aside (So w g off cap (siftDown ltN hi first lo d) w') := by
  obtain ⟨N, hN⟩ : ∃ N, d.size = N := ⟨_, rfl⟩
  have H := Aside.mk h
  have HN := Aside.mk hN
  have hcap : N ≤ cap := hN ▸ h.le
  rw [hN] at hb hs ⊢
  clear h hN
  go_enter Tryd.func58, Tryd.ntmps58
  go_wp2
  go_loopw [8] (fun vi wr => ∃ (r : Nat) (dk : Array Nat), vi = .int .i64 r ∧ r ≤ hi ∧ dk.size = N ∧ So w g off cap dk wr ∧ siftDown ltN hi first r dk = siftDown ltN hi first lo d) (fun vi _ => hi - natOf vi)
  case atStart => exact ⟨lo, d, rfl, hl, HN.it, So.refl H.it, rfl⟩
  case round =>
    obtain ⟨r, dk, rfl, hr, hsk, hS, hO⟩ := hrel
    obtain ⟨G, HG, hcw, hfw⟩ := hS.r.names hsk
    have HO := Aside.mk hO
    have HS := Aside.mk hS
    have HSK := Aside.mk hsk
    clear hO hS hsk
    by_cases h0 : hi ≤ 2 * r + 1
    · have h0z : (hi : Int) ≤ 2 * (r : Int) + 1 := by omega
      go_wp2
      go_end0
      refine ⟨rfl, ⟨?_⟩⟩
      rw [← HO.it, sift_end _ _ _ _ _ h0]
      exact HS.it
    · have h0z : ¬ ((hi : Int) ≤ 2 * (r : Int) + 1) := by omega
      go_upto_region 3 with fail
      go_cut [36] from 11 to 75 (fun v wx => ∃ q, v = .bool (decide (2 * r + 1 + 1 < hi) && ltN dk[first + (2 * r + 1)]! dk[first + (2 * r + 1) + 1]!) ∧ wx = wr.drewN q)
      case first =>
        by_cases h1 : 2 * r + 1 + 1 < hi
        · have h1z : 2 * (r : Int) + 1 + 1 < (hi : Int) := by omega
          go_wp2_with fail
          go_big_quiet (first | (go_at_call 53; refine Calls.quiet_of_same (less32 _ _ _)))
          go_wp2_with fail
          go_meet
          case rel =>
            refine ⟨nq, ?_, rfl⟩
            rw [← HG.it, ← HG.it]
            simp [h1, ← Nat.add_assoc]
        · have h1z : decide (2 * (r : Int) + 1 + 1 < (hi : Int)) = false := decide_eq_false (by omega)
          go_wp2_with fail
          go_big_quiet (first | (go_at_call 53; refine Calls.quiet_of_same (less32 _ _ _)))
          go_wp2_with fail
          go_meet
          case rel =>
            refine ⟨nq, ?_, rfl⟩
            simp [h1]
      case rest =>
      obtain ⟨q, rfl, rfl⟩ := hcut
      obtain ⟨cb, hcb⟩ : ∃ cb, (decide (2 * r + 1 + 1 < hi) && ltN dk[first + (2 * r + 1)]! dk[first + (2 * r + 1) + 1]!) = cb := ⟨_, rfl⟩
      rw [hcb]
      have HCB := Aside.mk hcb
      clear hcb
      go_upto_if 36 with fail
      go_cut [9] from 11 to 75 (fun v wx => v = .int .i64 (chld ltN hi first r dk : Nat) ∧ wx = wr.drewN q)
      case first =>
        cases cb
        · go_wp2_with fail
          go_meet
          case rel =>
            refine ⟨?_, rfl⟩
            unfold chld
            simp [HCB.it]
        · go_wp2_with fail
          go_meet
          case rel =>
            refine ⟨?_, rfl⟩
            unfold chld
            simp [HCB.it]
            omega
      case rest =>
        obtain ⟨rfl, rfl⟩ := hcut
        have hc1 : chld ltN hi first r dk < hi ∧ r < chld ltN hi first r dk := by
          unfold chld
          split
          · rename_i hc
            simp only [Bool.and_eq_true, decide_eq_true_eq] at hc
            omega
          · omega
        have GO := Aside.mk (sift_go ltN hi first r dk h0)
        have ST := Aside.mk (sift_stop ltN hi first r dk h0)
        generalize chld ltN hi first r dk = c at hc1 GO ST ⊢
        obtain ⟨hc1, hc2⟩ := hc1
        have hcw2 : ∀ t, t < N → (wr.drewN q).cell? ⟨g, off + t, none⟩ = some (.int .u32 (G t : Nat)) := hcw
        have hfw2 : ∀ t, t < N → (wr.drewN q).frozen? ⟨g, off + t, none⟩ = false := hfw
        have S2 := Aside.mk (HS.it.drewN q)
        clear hcw hfw
        generalize wr.drewN q = wx at hcw2 hfw2 S2 ⊢
        go_wp2_with fail
        go_big_quiet (first | (go_at_call 53; refine Calls.quiet_of_same (less32 _ _ _)))
        go_wp2_with fail
        · have hS : ltN (G (first + r)) (G (first + c)) = false := by
            have : (!ltN (G (first + r)) (G (first + c))) = true := by assumption
            simpa using this
          (try simp only [Exit.inBlock, Exit.then]); refine bodyPost_ret (results_none rfl _ _ _) rfl ?_
          refine ⟨rfl, ⟨?_⟩⟩
          rw [← HO.it, ST.it (by rw [← HG.it, ← HG.it]; exact hS)]
          exact S2.it.drewN _
        · have hS : ltN (G (first + r)) (G (first + c)) = true := by
            have : (!ltN (G (first + r)) (G (first + c))) = false := by assumption
            simpa using this
          go_region
          all_goals go_wp2
          go_roundw
          case rel =>
            refine ⟨c, swp dk (first + r) (first + c), rfl, by omega, by rw [size_swp]; exact HSK.it, ?_, ?_⟩
            · have := (S2.it.drewN (nq + 1)).swap (first + r) (first + c) (by rw [HSK.it]; omega) (by rw [HSK.it]; omega)
              rw [← HG.it, ← HG.it] at this
              exact this
            · rw [← HO.it, GO.it (by rw [← HG.it, ← HG.it]; exact hS)]
          case measure => simp [natOf]; omega

theorem size_sift (lt : Nat → Nat → Bool) (hi first root : Nat) (d : Array Nat) : (siftDown lt hi first root d).size = d.size := by
  fun_induction siftDown lt hi first root d <;> simp_all [size_swp]

set_option maxHeartbeats 1000000 in
theorem heap32 (g off cap a n : Nat) (d : Array Nat) (w : World) (h : Ro w g off cap d) (h0 : 0 < n) (hb : a + n ≤ d.size) (hs : d.size ≤ 4611686018427387903) :
    Calls Tryd.prog 48 #[.slice (some ⟨g, off, none⟩) d.size cap, .int .i64 a, .int .i64 (a + n : Nat)] w fun e w' =>
      e = .returned (.tuple #[]) ∧ Aside (So w g off cap (Sort.heapSort ltN d a (a + n)) w') := by
  obtain ⟨N, hN⟩ : ∃ N, d.size = N := ⟨_, rfl⟩
  obtain ⟨b, hbn⟩ : ∃ b, a + n = b := ⟨_, rfl⟩
  have H := Aside.mk h
  have HN := Aside.mk hN
  have hcap : N ≤ cap := hN ▸ h.le
  have HB := Aside.mk (show Sort.heapSort ltN d a b = heapPop ltN a n (heapBuild ltN n a ((n - 1) / 2 + 1) d) by subst hbn; unfold Sort.heapSort; simp)
  rw [hbn] at hb ⊢
  rw [hN] at hb hs ⊢
  obtain ⟨m0, hm0⟩ : ∃ m0 : Nat, (n - 1) / 2 = m0 := ⟨_, rfl⟩
  rw [hm0] at HB
  have e0 : (b : Int) - a = n := by omega
  have e1 : ((n : Int) - 1).tdiv 2 = m0 := by rw [Int.tdiv_eq_ediv_of_nonneg (by omega)]; omega
  have hm1 : m0 < n := by omega
  clear h hN hbn hm0
  go_enter Tryd.func48, Tryd.ntmps48
  go_wp2
  go_loopw [9] (fun vi wr => ∃ (k : Nat) (dk : Array Nat), vi = .int .i64 ((k : Int) - 1) ∧ k ≤ m0 + 1 ∧ dk.size = N ∧ So w g off cap dk wr ∧ heapBuild ltN n a k dk = heapBuild ltN n a (m0 + 1) d) (fun vi _ => match vi with | .int _ q => (q + 1).toNat | _ => 0)
  case atStart => exact ⟨m0 + 1, d, by congr 1; omega, Nat.le_refl _, HN.it, So.refl H.it, rfl⟩
  case round =>
    obtain ⟨k, dk, rfl, hk, hsk, hS, hO⟩ := hrel
    have HO := Aside.mk hO
    have HS := Aside.mk hS
    have HSK := Aside.mk hsk
    clear hO hS hsk
    cases k with
    | succ m =>
      have e2 : ((m + 1 : Nat) : Int) - 1 = m := by omega
      rw [e2]
      have CS := Aside.mk (sift32 g off cap m n a dk wr HS.it.r (by rw [HSK.it]; omega) (by omega) (by rw [HSK.it]; omega))
      rw [HSK.it] at CS
      go_wp2_with (go_at_call 58; refine CS.it.mono ?_; rintro e w1 ⟨rfl, S1⟩)
      go_roundw
      case rel => exact ⟨m, siftDown ltN n a m dk, rfl, by omega, by rw [size_sift]; exact HSK.it, HS.it.trans S1.it, by rw [← HO.it]; rfl⟩
      case measure => simp
    | zero =>
      have e2 : ((0 : Nat) : Int) - 1 = -1 := by omega
      rw [e2]
      go_wp2
      go_loopw [10] (fun vi wr2 => ∃ (k : Nat) (dk2 : Array Nat), vi = .int .i64 ((k : Int) - 1) ∧ k ≤ n ∧ dk2.size = N ∧ So w g off cap dk2 wr2 ∧ heapPop ltN a k dk2 = Sort.heapSort ltN d a b) (fun vi _ => match vi with | .int _ q => (q + 1).toNat | _ => 0)
      case atStart => exact ⟨n, dk, rfl, Nat.le_refl _, HSK.it, HS.it, by rw [HB.it, ← HO.it]; rfl⟩
      case round =>
        obtain ⟨k, dj, rfl, hkn, hsj, hS2, hO2⟩ := hrel
        obtain ⟨G, HG, hcw, hfw⟩ := hS2.r.names hsj
        have HO2 := Aside.mk hO2
        have HS2 := Aside.mk hS2
        have HSJ := Aside.mk hsj
        clear hO2 hS2 hsj
        cases k with
        | zero =>
          have e2 : ((0 : Nat) : Int) - 1 = -1 := by omega
          rw [e2]
          go_wp2
          go_end0
          refine ⟨rfl, ⟨?_⟩⟩
          rw [← HO2.it]
          exact HS2.it
        | succ m =>
          have e2 : ((m + 1 : Nat) : Int) - 1 = m := by omega
          rw [e2]
          rcases Nat.eq_zero_or_pos m with rfl | hm
          all_goals
            go_upto_region 10 with fail
            go_region
            all_goals go_wp2_with fail
          · have SW := HS2.it.drew.swap a a (by rw [HSJ.it]; omega) (by rw [HSJ.it]; omega)
            rw [← HG.it] at SW
            have SZ : (swp dj a a).size = N := by rw [size_swp]; exact HSJ.it
            have CS := Aside.mk (sift32 g off cap 0 0 a (swp dj a a) _ SW.r (by rw [SZ]; omega) (by omega) (by rw [SZ]; omega))
            rw [SZ] at CS
            refine CS.it.mono ?_
            rintro e w1 ⟨rfl, S1⟩
            go_wp2_with fail
            go_roundw
            case rel => exact ⟨0, siftDown ltN 0 a 0 (swp dj a (a + 0)), rfl, by omega, by rw [size_sift]; exact SZ, SW.trans S1.it, by rw [← HO2.it]; rfl⟩
            case measure => simp
          · have SW := HS2.it.drew.swap a (a + m) (by rw [HSJ.it]; omega) (by rw [HSJ.it]; omega)
            rw [← HG.it, ← HG.it] at SW
            have SZ : (swp dj a (a + m)).size = N := by rw [size_swp]; exact HSJ.it
            have CS := Aside.mk (sift32 g off cap 0 m a (swp dj a (a + m)) _ SW.r (by rw [SZ]; omega) (by omega) (by rw [SZ]; omega))
            rw [SZ] at CS
            refine CS.it.mono ?_
            rintro e w1 ⟨rfl, S1⟩
            go_wp2_with fail
            go_roundw
            case rel => exact ⟨m, siftDown ltN m a 0 (swp dj a (a + m)), rfl, by omega, by rw [size_sift]; exact SZ, SW.trans S1.it, by rw [← HO2.it]; rfl⟩
            case measure => simp
end Go.Proofs.YtnmpnajmhfonhaaDoor
