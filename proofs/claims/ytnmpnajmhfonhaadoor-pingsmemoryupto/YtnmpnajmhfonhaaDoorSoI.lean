/-
  slices.Sort of numbers of 32 bits: partialInsertionSort
-/
import Derived.Test.YtnmpnajmhfonhaaDoorSoG
namespace Go.Proofs.YtnmpnajmhfonhaaDoor
open Go.RowKit Go.Sort

section
variable {α : Type} [Inhabited α] (lt : α → α → Bool)
theorem ss_go (d : Array α) (b i : Nat) (h : (decide (i < b) && !lt d[i]! d[i - 1]!) = true) : scanSorted lt d b i = scanSorted lt d b (i + 1) := by
  conv => lhs; rw [scanSorted, if_pos h]
theorem ss_stop (d : Array α) (b i : Nat) (h : (decide (i < b) && !lt d[i]! d[i - 1]!) = false) : scanSorted lt d b i = i := by
  rw [scanSorted, if_neg (by simp [h])]
theorem sd_go (d : Array α) (j : Nat) (h1 : 1 ≤ j) (h : lt d[j]! d[j - 1]! = true) : shiftDown lt j d = shiftDown lt (j - 1) (swp d j (j - 1)) := by
  obtain ⟨k, rfl⟩ : ∃ k, j = k + 1 := ⟨j - 1, by omega⟩
  simp only [Nat.add_sub_cancel] at h ⊢
  rw [shiftDown]
  simp [h]
theorem sd_stop (d : Array α) (j : Nat) (h : j = 0 ∨ lt d[j]! d[j - 1]! = false) : shiftDown lt j d = d := by
  cases j with
  | zero => rfl
  | succ k =>
    rw [shiftDown]
    rcases h with h | h
    · omega
    · simp only [Nat.add_sub_cancel] at h
      simp [h]
theorem su_go (b : Nat) (d : Array α) (j : Nat) (hb : j < b) (h : lt d[j]! d[j - 1]! = true) : shiftUp lt b j d = shiftUp lt b (j + 1) (swp d j (j - 1)) := by
  conv => lhs; rw [shiftUp, if_pos hb]
  simp [h]
theorem su_stop (b : Nat) (d : Array α) (j : Nat) (h : ¬ j < b ∨ lt d[j]! d[j - 1]! = false) : shiftUp lt b j d = d := by
  rw [shiftUp]
  rcases h with h | h
  · simp [h]
  · simp [h]
theorem size_sd (j : Nat) (d : Array α) : (shiftDown lt j d).size = d.size := by
  induction j generalizing d with
  | zero => rfl
  | succ k ih =>
    rw [shiftDown]
    split
    · rfl
    · rw [ih, size_swp]
theorem ss_le (d : Array α) (b : Nat) : ∀ i, i ≤ b → scanSorted lt d b i ≤ b ∧ i ≤ scanSorted lt d b i := by
  intro i
  fun_induction scanSorted lt d b i with
  | case1 i h ih => intro hi; simp only [Bool.and_eq_true, decide_eq_true_eq] at h; have := ih (by omega); omega
  | case2 i h => intro hi; omega
end

set_option maxRecDepth 20000 in
set_option maxHeartbeats 4000000 in
theorem partial32 (g off cap a b : Nat) (d : Array Nat) (w : World) (h : Ro w g off cap d) (ha : a < b) (hb : b ≤ d.size) (hs : d.size ≤ 4611686018427387903) :
    Calls Tryd.prog 52 #[.slice (some ⟨g, off, none⟩) d.size cap, .int .i64 a, .int .i64 b] w fun e w' =>
      e = .returned (.bool (Sort.partialInsertionSort ltN d a b).2) ∧ Aside (So w g off cap (Sort.partialInsertionSort ltN d a b).1 w') := by
  obtain ⟨N, hN⟩ : ∃ N, d.size = N := ⟨_, rfl⟩
  obtain ⟨⟨dd, rr⟩, hE⟩ : ∃ R, partialIns ltN a b 5 (a + 1) d = R := ⟨_, rfl⟩
  have HE := Aside.mk (show Sort.partialInsertionSort ltN d a b = (dd, rr) from hE)
  have HO0 := Aside.mk hE
  have H := Aside.mk h
  have HN := Aside.mk hN
  have hcap : N ≤ cap := hN ▸ h.le
  rw [hN] at hb hs ⊢
  clear h hN hE
  go_enter Tryd.func52, Tryd.ntmps52
  go_wp2_with fail
  go_loopw [7, 8] (fun vi vj wr => ∃ (i s : Nat) (dk : Array Nat), vi = .int .i64 i ∧ vj = .int .i64 (5 - s : Int) ∧ s ≤ 5 ∧ a < i ∧ i ≤ b ∧ dk.size = N ∧ So w g off cap dk wr ∧ partialIns ltN a b s i dk = (dd, rr)) (fun _ vj _ => match vj with | .int _ q => (5 - q).toNat | _ => 0)
  case atStart => exact ⟨a + 1, 5, d, by go_num, by simp, by omega, by omega, by omega, HN.it, So.refl H.it, HO0.it⟩
  case round =>
    obtain ⟨i, s, dk, rfl, rfl, hs5, hai, hib, hsk, hS, hO⟩ := hrel
    cases s with
    | zero =>
      have HO := Aside.mk hO
      have HS := Aside.mk hS
      clear hO hS hsk
      go_wp2_with fail
      go_ret
      have e := HO.it
      rw [partialIns] at e
      rw [HE.it, ← e]
      exact ⟨rfl, HS⟩
    | succ s =>
    obtain ⟨G, HG, hcw, hfw⟩ := hS.r.names hsk
    obtain ⟨i2, hi2⟩ : ∃ i2, scanSorted ltN dk b i = i2 := ⟨_, rfl⟩
    have hL := ss_le ltN dk b i hib
    rw [hi2] at hL
    rw [partialIns_succ, hi2] at hO
    have HU := Aside.mk hi2
    have HO := Aside.mk hO
    have HS := Aside.mk hS
    have HSK := Aside.mk hsk
    clear hO hS hsk hi2
    have e5 : (5 : Int) - ((s + 1 : Nat) : Int) < 5 := by omega
    have e6 : (0 : Int) ≤ 5 - ((s + 1 : Nat) : Int) := by omega
    have e7 : (5 : Int) - ((s + 1 : Nat) : Int) + 1 = 5 - s := by omega
    obtain ⟨jj, hjj⟩ : ∃ jj : Int, (5 : Int) - ((s + 1 : Nat) : Int) = jj := ⟨_, rfl⟩
    rw [hjj] at e5 e6 e7 ⊢
    have HJ := Aside.mk hjj
    clear hjj
    go_wp2_with fail
    go_loopw [7] (fun vi wr2 => ∃ (i' q : Nat), vi = .int .i64 i' ∧ a < i' ∧ i' ≤ b ∧ wr2 = wr.drewN q ∧ scanSorted ltN dk b i' = i2) (fun vi _ => b - natOf vi)
    case atStart => exact ⟨i, 0, rfl, hai, hib, rfl, HU.it⟩
    case round =>
      obtain ⟨i', q, rfl, hii, hij', rfl, hU⟩ := hrel
      have HU2 := Aside.mk hU
      clear hU
      have hcw2 : ∀ t, t < N → (wr.drewN q).cell? ⟨g, off + t, none⟩ = some (.int .u32 (G t : Nat)) := hcw
      go_upto_region 5 with fail
      go_cut [32] from 17 to 34 (fun v wx => ∃ q', v = .bool (decide (i' < b) && !ltN dk[i']! dk[i' - 1]!) ∧ wx = wr.drewN q')
      case first =>
        generalize hW : wr.drewN q = W at hcw2 ⊢
        have HW := Aside.mk hW
        clear hW
        by_cases h1 : i' < b
        · have h1z : (i' : Int) < b := by omega
          go_wp2_with fail
          go_big_quiet (first | (go_at_call 53; refine Calls.quiet_of_same (less32 _ _ _)))
          go_wp2_with fail
          go_meet
          case rel =>
            refine ⟨q + nq, ?_, by rw [← HW.it]; exact World.drewN_drewN _ _ _⟩
            rw [← HG.it, ← HG.it]
            simp [h1]
        · have h1z : decide ((i' : Int) < b) = false := decide_eq_false (by omega)
          go_wp2_with fail
          go_big_quiet (first | (go_at_call 53; refine Calls.quiet_of_same (less32 _ _ _)))
          go_wp2_with fail
          go_meet
          case rel =>
            refine ⟨q + nq, ?_, by rw [← HW.it]; exact World.drewN_drewN _ _ _⟩
            simp [h1]
      case rest =>
      obtain ⟨q', rfl, rfl⟩ := hcut
      obtain ⟨cb, hcb⟩ : ∃ cb, (decide (i' < b) && !ltN dk[i']! dk[i' - 1]!) = cb := ⟨_, rfl⟩
      rw [hcb]
      have HCB := Aside.mk hcb
      clear hcb hcw2
      cases cb
      · have e2 : i' = i2 := by rw [← HU2.it, ss_stop _ _ _ _ HCB.it]
        subst e2
        have hcw3 : ∀ t, t < N → (wr.drewN q').cell? ⟨g, off + t, none⟩ = some (.int .u32 (G t : Nat)) := hcw
        have hfw3 : ∀ t, t < N → (wr.drewN q').frozen? ⟨g, off + t, none⟩ = false := hfw
        have S3 := Aside.mk (HS.it.drewN q')
        clear hcw hfw HS
        generalize wr.drewN q' = W at hcw3 hfw3 S3 ⊢
        by_cases hib2 : i' = b
        · subst hib2
          go_wp2_with fail
          go_ret
          have e := HO.it
          rw [if_pos (by trivial)] at e
          rw [HE.it, ← e]
          exact ⟨rfl, S3⟩
        · have hz1 : ((i' : Int) == b) = false := by simp; omega
          by_cases h50 : b - a < 50
          · have h50' : (b : Int) - a < 50 := by omega
            go_wp2_with fail
            go_ret
            have e := HO.it
            rw [if_neg hib2, if_pos h50] at e
            rw [HE.it, ← e]
            exact ⟨rfl, S3⟩
          · have h50' : ¬ (b : Int) - a < 50 := by omega
            have hO := HO.it
            rw [if_neg hib2, if_neg h50] at hO
            have HO2 := Aside.mk hO
            clear hO HO
            go_upto_region 11 with fail
            go_region
            all_goals go_upto_if 61 with fail
            have S4' := S3.it.drew.swap i' (i' - 1) (by rw [HSK.it]; omega) (by rw [HSK.it]; omega)
            rw [← HG.it, ← HG.it] at S4'
            have S4 : Aside (So w g off cap (swp dk i' (i' - 1)) (((W.setCell ⟨g, off + i', none⟩ (.int .u32 (G (i' - 1) : Nat))).setCell ⟨g, off + (i' - 1), none⟩ (.int .u32 (G i' : Nat))).drew)) := ⟨S4'⟩
            clear S4'
            have SZ1 := Aside.mk (show (swp dk i' (i' - 1)).size = N by rw [size_swp]; exact HSK.it)
            generalize swp dk i' (i' - 1) = d1 at S4 SZ1 HO2
            generalize (((W.setCell ⟨g, off + i', none⟩ (.int .u32 (G (i' - 1) : Nat))).setCell ⟨g, off + (i' - 1), none⟩ (.int .u32 (G i' : Nat))).drew) = W1 at S4 ⊢
            clear hcw3 hfw3 HG
            go_cut [9] from 13 to 132 (fun _ wx => ∃ d2 : Array Nat, Aside (fixDown ltN a i' d1 = d2 ∧ d2.size = N ∧ So w g off cap d2 wx))
            case first =>
              by_cases h2 : 2 ≤ i' - a
              · have h2' : (2 : Int) ≤ i' - a := by omega
                go_wp2_with fail
                go_loopw [9] (fun vj wr2 => ∃ (j : Nat) (dj : Array Nat), vj = .int .i64 j ∧ j < i' ∧ dj.size = N ∧ So w g off cap dj wr2 ∧ shiftDown ltN j dj = shiftDown ltN (i' - 1) d1) (fun vj _ => natOf vj)
                case atStart => exact ⟨i' - 1, d1, by congr 1; omega, by omega, SZ1.it, S4.it, rfl⟩
                case round =>
                  obtain ⟨j, dj, rfl, hji, hsj, hSj, hJ⟩ := hrel
                  obtain ⟨G2, HG2, hcwj, hfwj⟩ := hSj.r.names hsj
                  have HSJ := Aside.mk hSj
                  have HZJ := Aside.mk hsj
                  have HJ2 := Aside.mk hJ
                  clear hSj hsj hJ
                  by_cases hj1 : 1 ≤ j
                  · have hj1' : (1 : Int) ≤ j := by omega
                    go_wp2_with fail
                    go_big_quiet (first | (go_at_call 53; refine Calls.quiet_of_same (less32 _ _ _)))
                    go_wp2_with fail
                    · have hl : ltN (G2 j) (G2 (j - 1)) = false := by
                        have : (!ltN (G2 j) (G2 (j - 1))) = true := by assumption
                        simpa using this
                      go_meet
                      case rel => exact ⟨dj, ⟨by unfold fixDown; rw [if_pos h2, ← HJ2.it, sd_stop _ _ _ (.inr (by rw [← HG2.it, ← HG2.it]; exact hl))], HZJ.it, HSJ.it.drewN _⟩⟩
                    · have hl : ltN (G2 j) (G2 (j - 1)) = true := by
                        have : (!ltN (G2 j) (G2 (j - 1))) = false := by assumption
                        simpa using this
                      go_region
                      all_goals go_wp2_with fail
                      go_roundw
                      case rel =>
                        refine ⟨j - 1, swp dj j (j - 1), by congr 1; omega, by omega, by rw [size_swp]; exact HZJ.it, ?_, by rw [← HJ2.it, sd_go _ _ j hj1 (by rw [← HG2.it, ← HG2.it]; exact hl)]⟩
                        have := (HSJ.it.drewN (nq + 1)).swap j (j - 1) (by rw [HZJ.it]; omega) (by rw [HZJ.it]; omega)
                        rw [← HG2.it, ← HG2.it] at this
                        exact this
                      case measure => simp [natOf]; omega
                  · obtain rfl : j = 0 := by omega
                    go_wp2_with fail
                    go_meet
                    case rel => exact ⟨dj, ⟨by unfold fixDown; rw [if_pos h2, ← HJ2.it]; rfl, HZJ.it, HSJ.it⟩⟩
              · have h2' : ¬ (2 : Int) ≤ i' - a := by omega
                go_wp2_with fail
                go_meet
                case rel => exact ⟨d1, ⟨by unfold fixDown; rw [if_neg h2], SZ1.it, S4.it⟩⟩
            case rest =>
            obtain ⟨d2, hd2⟩ := hcut
            have S5 := Aside.mk hd2.it.2.2
            have SZ2 := Aside.mk hd2.it.2.1
            rw [hd2.it.1] at HO2
            clear hd2 S4 SZ1
            generalize wc = W2 at S5 ⊢
            go_upto_if 98 with fail
            obtain ⟨SS, hSS⟩ : ∃ SS, SS = s := ⟨_, rfl⟩
            subst hSS
            have FIN : Aside (∀ (d3 : Array Nat) (wx : World), (fixUp ltN b i' d2 = d3 ∧ d3.size = N ∧ So w g off cap d3 wx) → ∃ (i s : Nat) (dk : Array Nat), Value.int .i64 (i' : Nat) = .int .i64 i ∧ Value.int .i64 (5 - (SS : Nat) : Int) = .int .i64 (5 - s : Int) ∧ s ≤ 5 ∧ a < i ∧ i ≤ b ∧ dk.size = N ∧ So w g off cap dk wx ∧ partialIns ltN a b s i dk = (dd, rr)) := ⟨fun d3 wx h => ⟨i', SS, d3, rfl, rfl, by omega, hii, hij', h.2.1, h.2.2, by rw [← h.1]; exact HO2.it⟩⟩
            by_cases h2 : 2 ≤ b - i'
            · have h2' : (2 : Int) ≤ b - i' := by omega
              go_wp2_with fail
              go_loopw [10] (fun vj wr2 => ∃ (j : Nat) (dj : Array Nat), vj = .int .i64 j ∧ i' < j ∧ j ≤ b ∧ dj.size = N ∧ So w g off cap dj wr2 ∧ shiftUp ltN b j dj = shiftUp ltN b (i' + 1) d2) (fun vj _ => b - natOf vj)
              case atStart => exact ⟨i' + 1, d2, by go_num, by omega, by omega, SZ2.it, S5.it, rfl⟩
              case round =>
                obtain ⟨j, dj, rfl, hji, hjb, hsj, hSj, hJ⟩ := hrel
                obtain ⟨G2, HG2, hcwj, hfwj⟩ := hSj.r.names hsj
                have HSJ := Aside.mk hSj
                have HZJ := Aside.mk hsj
                have HJ2 := Aside.mk hJ
                clear hSj hsj hJ
                by_cases hj1 : j < b
                · have hj1' : (j : Int) < b := by omega
                  go_wp2_with fail
                  go_big_quiet (first | (go_at_call 53; refine Calls.quiet_of_same (less32 _ _ _)))
                  go_wp2_with fail
                  · have hl : ltN (G2 j) (G2 (j - 1)) = false := by
                      have : (!ltN (G2 j) (G2 (j - 1))) = true := by assumption
                      simpa using this
                    go_roundw
                    case rel => exact FIN.it dj _ ⟨by unfold fixUp; rw [if_pos h2, ← HJ2.it, su_stop _ _ _ _ (.inr (by rw [← HG2.it, ← HG2.it]; exact hl))], HZJ.it, HSJ.it.drewN _⟩
                    case measure => have := HJ.it; simp; omega
                  · have hl : ltN (G2 j) (G2 (j - 1)) = true := by
                      have : (!ltN (G2 j) (G2 (j - 1))) = false := by assumption
                      simpa using this
                    go_region
                    all_goals go_wp2_with fail
                    go_roundw
                    case rel =>
                      refine ⟨j + 1, swp dj j (j - 1), by go_num, by omega, by omega, by rw [size_swp]; exact HZJ.it, ?_, by rw [← HJ2.it, su_go _ _ _ j hj1 (by rw [← HG2.it, ← HG2.it]; exact hl)]⟩
                      have := (HSJ.it.drewN (nq + 1)).swap j (j - 1) (by rw [HZJ.it]; omega) (by rw [HZJ.it]; omega)
                      rw [← HG2.it, ← HG2.it] at this
                      exact this
                    case measure => simp [natOf]; omega
                · have hj1' : ¬ (j : Int) < b := by omega
                  go_wp2_with fail
                  go_roundw
                  case rel => exact FIN.it dj _ ⟨by unfold fixUp; rw [if_pos h2, ← HJ2.it, su_stop _ _ _ _ (.inl hj1)], HZJ.it, HSJ.it⟩
                  case measure => have := HJ.it; simp; omega
            · have h2' : ¬ (2 : Int) ≤ b - i' := by omega
              go_wp2_with fail
              go_roundw
              case rel => exact FIN.it d2 _ ⟨by unfold fixUp; rw [if_neg h2], SZ2.it, S5.it⟩
              case measure => have := HJ.it; simp; omega
      · have hb3 := HCB.it
        simp only [Bool.and_eq_true, decide_eq_true_eq] at hb3
        have hb4 := hb3.1
        clear hb3
        go_wp2_with fail
        go_roundw
        case rel => exact ⟨i' + 1, q', by go_num, by omega, by omega, rfl, by rw [← HU2.it, ss_go _ _ _ i' HCB.it]⟩
        case measure => simp [natOf]; omega
end Go.Proofs.YtnmpnajmhfonhaaDoor
