/-
  slices.Sort of numbers of 32 bits: partition
-/
import Derived.Test.YtnmpnajmhfonhaaDoorSoG
namespace Go.Proofs.YtnmpnajmhfonhaaDoor
open Go.RowKit Go.Sort

set_option maxRecDepth 20000 in
set_option maxHeartbeats 4000000 in
theorem part32 (g off cap a b pv : Nat) (d : Array Nat) (w : World) (h : Ro w g off cap d) (ha : a ≤ pv) (hp : pv < b) (hb : b ≤ d.size) (hs : d.size ≤ 4611686018427387903) :
    Calls Tryd.prog 55 #[.slice (some ⟨g, off, none⟩) d.size cap, .int .i64 a, .int .i64 b, .int .i64 pv] w fun e w' =>
      ∃ ap : Bool, e = .returned (.tuple #[.int .i64 (Sort.partition ltN d a b pv).1, .bool ap]) ∧ Aside (So w g off cap (Sort.partition ltN d a b pv).2.2 w') := by
  obtain ⟨N, hN⟩ : ∃ N, d.size = N := ⟨_, rfl⟩
  obtain ⟨G0, HG0, hcw0, hfw0⟩ := h.names hN
  have H := Aside.mk h
  have HN := Aside.mk hN
  have hcap : N ≤ cap := hN ▸ h.le
  rw [hN] at hb hs ⊢
  clear h hN
  go_enter Tryd.func55, Tryd.ntmps55
  go_upto_region 1 with fail
  go_cut [8, 9] (fun v v9 wx => v = .int .i64 0 ∧ v9 = .bool false ∧ Aside (So w g off cap (swp d a pv) wx))
  case first =>
    rcases Nat.eq_or_lt_of_le ha with rfl | hlt
    · go_region
      all_goals go_wp2_with fail
      go_meet
      case rel =>
        have := (So.refl H.it).drew.swap a a (by rw [HN.it]; omega) (by rw [HN.it]; omega)
        rw [← HG0.it] at this
        exact ⟨rfl, rfl, ⟨this⟩⟩
    · go_region
      all_goals go_wp2_with fail
      go_meet
      case rel =>
        have := (So.refl H.it).drew.swap a pv (by rw [HN.it]; omega) (by rw [HN.it]; omega)
        rw [← HG0.it, ← HG0.it] at this
        exact ⟨rfl, rfl, ⟨this⟩⟩
  case rest =>
  obtain ⟨rfl, rfl, S0⟩ := hcut
  have e0 : (b : Int) - 1 = (b - 1 : Nat) := by omega
  obtain ⟨j0, hj0⟩ : ∃ j0, b - 1 = j0 := ⟨_, rfl⟩
  obtain ⟨⟨mid, dd⟩, hE⟩ : ∃ R, partLoop ltN a (a + 1) (b - 1) (swp d a pv) = R := ⟨_, rfl⟩
  have HE := Aside.mk hE
  rw [hj0] at e0 hE
  have hj1 : j0 < b := by omega
  have hj2 : a ≤ j0 := by omega
  have hij : a + 1 ≤ j0 + 1 := by omega
  rw [partLoop_eq] at hE
  have HSK := Aside.mk (show (swp d a pv).size = N by rw [size_swp]; exact HN.it)
  generalize swp d a pv = dk at S0 hE HSK
  have HO := Aside.mk hE
  clear hj0 hcw0 hfw0 hE
  generalize wc = wr at S0 ⊢
  obtain ⟨G, HG, hcw, hfw⟩ := S0.it.r.names HSK.it
  have HS := Aside.mk S0.it
  clear S0
  obtain ⟨i2, hi2⟩ : ∃ i2, scanUp (fun x => ltN x dk[a]!) dk j0 (a + 1) = i2 := ⟨_, rfl⟩
  rw [hi2] at HO
  obtain ⟨j2, hj2⟩ : ∃ j2, scanDown (fun x => !ltN x dk[a]!) dk i2 j0 = j2 := ⟨_, rfl⟩
  rw [hj2] at HO
  have HU := Aside.mk hi2
  have HD := Aside.mk hj2
  have HF := Aside.mk (show (a + 1) ≤ i2 ∧ i2 ≤ j0 + 1 ∧ j2 ≤ j0 ∧ i2 ≤ j2 + 1 from by
    obtain ⟨a1, a2, _, _⟩ := scanUp_spec (fun x => ltN x dk[a]!) dk j0 _ ((a + 1)) rfl
    obtain ⟨b1, b2, _, _⟩ := scanDown_spec (fun x => !ltN x dk[a]!) dk i2 j0
    rw [hi2] at a1 a2
    rw [hj2] at b1 b2
    have := a2 hij
    exact ⟨a1, this, b1, b2 this⟩)
  clear hi2 hj2
  go_wp2_with fail
  go_loopw [10] (fun vi wr2 => ∃ (i' q : Nat), vi = .int .i64 i' ∧ a + 1 ≤ i' ∧ i' ≤ j0 + 1 ∧ wr2 = wr.drewN q ∧ scanUp (fun x => ltN x dk[a]!) dk j0 i' = i2) (fun vi _ => j0 + 1 - natOf vi)
  case atStart => exact ⟨a + 1, 0, by first | rfl | go_num, Nat.le_refl _, hij, rfl, HU.it⟩
  case round =>
    obtain ⟨i', q, rfl, hii, hij', rfl, hU⟩ := hrel
    have HU2 := Aside.mk hU
    clear hU
    have hcw2 : ∀ t, t < N → (wr.drewN q).cell? ⟨g, off + t, none⟩ = some (.int .u32 (G t : Nat)) := hcw
    go_upto_region 3 with fail
    go_cut [43] from 30 to 45 (fun v wx => ∃ q', v = .bool (decide (i' ≤ j0) && ltN dk[i']! dk[a]!) ∧ wx = wr.drewN q')
    case first =>
      generalize hW : wr.drewN q = W at hcw2 ⊢
      have HW := Aside.mk hW
      clear hW
      by_cases h1 : i' ≤ j0
      · have h1z : (i' : Int) ≤ j0 := by omega
        go_wp2_with fail
        go_big_quiet (first | (go_at_call 53; refine Calls.quiet_of_same (less32 _ _ _)))
        go_wp2_with fail
        go_meet
        case rel =>
          refine ⟨q + nq, ?_, by rw [← HW.it]; exact World.drewN_drewN _ _ _⟩
          rw [← HG.it, ← HG.it]
          simp [h1]
      · have h1z : decide ((i' : Int) ≤ j0) = false := decide_eq_false (by omega)
        go_wp2_with fail
        go_big_quiet (first | (go_at_call 53; refine Calls.quiet_of_same (less32 _ _ _)))
        go_wp2_with fail
        go_meet
        case rel =>
          refine ⟨q + nq, ?_, by rw [← HW.it]; exact World.drewN_drewN _ _ _⟩
          simp [h1]
    case rest =>
    obtain ⟨q', rfl, rfl⟩ := hcut
    obtain ⟨cb, hcb⟩ : ∃ cb, (decide (i' ≤ j0) && ltN dk[i']! dk[a]!) = cb := ⟨_, rfl⟩
    rw [hcb]
    have HCB := Aside.mk hcb
    clear hcb hcw2
    cases cb
    · have e2 : i' = i2 := by rw [← HU2.it, up_stop _ _ _ _ HCB.it]
      subst e2
      go_wp2_with fail
      go_loopw [11] (fun vj wr2 => ∃ (j' q : Nat), vj = .int .i64 j' ∧ j' ≤ j0 ∧ i' ≤ j' + 1 ∧ wr2 = wr.drewN q ∧ scanDown (fun x => !ltN x dk[a]!) dk i' j' = j2) (fun vj _ => natOf vj)
      case atStart => exact ⟨j0, q', rfl, Nat.le_refl _, hij', rfl, HD.it⟩
      case round =>
        obtain ⟨j', q3, rfl, hjj, hij3, rfl, hD⟩ := hrel
        have HD2 := Aside.mk hD
        clear hD
        have hcw3 : ∀ t, t < N → (wr.drewN q3).cell? ⟨g, off + t, none⟩ = some (.int .u32 (G t : Nat)) := hcw
        go_upto_region 5 with fail
        go_cut [60] from 46 to 62 (fun v wx => ∃ q', v = .bool (decide (i' ≤ j') && !ltN dk[j']! dk[a]!) ∧ wx = wr.drewN q')
        case first =>
          generalize hW : wr.drewN q3 = W at hcw3 ⊢
          have HW := Aside.mk hW
          clear hW
          by_cases h1 : i' ≤ j'
          · have h1z : (i' : Int) ≤ j' := by omega
            go_wp2_with fail
            go_big_quiet (first | (go_at_call 53; refine Calls.quiet_of_same (less32 _ _ _)))
            go_wp2_with fail
            go_meet
            case rel =>
              refine ⟨q3 + nq, ?_, by rw [← HW.it]; exact World.drewN_drewN _ _ _⟩
              rw [← HG.it, ← HG.it]
              simp [h1]
          · have h1z : decide ((i' : Int) ≤ j') = false := decide_eq_false (by omega)
            go_wp2_with fail
            go_big_quiet (first | (go_at_call 53; refine Calls.quiet_of_same (less32 _ _ _)))
            go_wp2_with fail
            go_meet
            case rel =>
              refine ⟨q3 + nq, ?_, by rw [← HW.it]; exact World.drewN_drewN _ _ _⟩
              simp [h1]
        case rest =>
        obtain ⟨q4, rfl, rfl⟩ := hcut
        obtain ⟨cb, hcb⟩ : ∃ cb, (decide (i' ≤ j') && !ltN dk[j']! dk[a]!) = cb := ⟨_, rfl⟩
        rw [hcb]
        have HCB2 := Aside.mk hcb
        clear hcb hcw3
        cases cb
        · have e3 : j' = j2 := by rw [← HD2.it, dn_stop _ _ _ _ HCB2.it]
          subst e3
          have hcw4 : ∀ t, t < N → (wr.drewN q4).cell? ⟨g, off + t, none⟩ = some (.int .u32 (G t : Nat)) := hcw
          have hfw4 : ∀ t, t < N → (wr.drewN q4).frozen? ⟨g, off + t, none⟩ = false := hfw
          have S4 := Aside.mk (HS.it.drewN q4)
          clear hcw hfw
          generalize wr.drewN q4 = W at hcw4 hfw4 S4 ⊢
          have hmid : a ≤ j' := by omega
          have hF := HF.it
          by_cases hgt : j' < i'
          · have hgz : (j' : Int) < i' := by omega
            rcases Nat.eq_or_lt_of_le hmid with rfl | hlt
            all_goals
              go_wp2_with fail
              go_region
              all_goals go_wp2
              go_returns
            all_goals
              refine ⟨true, ?_, ⟨?_⟩⟩
              · rw [partition_fst, HE.it, ← HO.it, if_pos hgt]
                rfl
              · rw [partition_arr, HE.it, ← HO.it, if_pos hgt]
                have := S4.it.drew.swap _ a (by rw [HSK.it]; exact Nat.lt_of_le_of_lt hF.2.2.1 (by omega)) (by rw [HSK.it]; omega)
                simp only [← HG.it] at this
                exact this
          · have hgz : ¬ (j' : Int) < i' := by omega
            have hne : i' < j' := scan_ne _ _ (fun x => by simp) dk (a + 1) j0 i' j' (by omega) HU.it HD.it (by omega)
            go_wp2_with fail
            go_region
            all_goals go_wp2_with fail
            have S5 := S4.it.drew.swap i' j' (by rw [HSK.it]; omega) (by rw [HSK.it]; omega)
            rw [← HG.it, ← HG.it] at S5
            go_loopw [10, 11] (fun vi vj wr => ∃ (i j : Nat) (dk : Array Nat), vi = .int .i64 i ∧ vj = .int .i64 j ∧ a < i ∧ i ≤ j + 1 ∧ j < b ∧ dk.size = N ∧ So w g off cap dk wr ∧ partLoop ltN a i j dk = (mid, dd)) (fun vi vj _ => natOf vj + 1 - natOf vi)
            case atStart => exact ⟨i' + 1, j' - 1, swp dk i' j', by go_num, by congr 1; omega, by omega, by omega, by omega, by rw [size_swp]; exact HSK.it, S5, by rw [← HO.it, if_neg hgt]⟩
            case round =>
              clear hcw4 hfw4 S4 S5 HG HF HU HD HO HSK HS HU2 HD2 HCB HCB2 hF hij hij' hii hjj hij3 hne hgt hgz hmid
              obtain ⟨i, j, dk, rfl, rfl, hai, hij, hjb, hsk, hS, hO⟩ := hrel
              obtain ⟨G, HG, hcw, hfw⟩ := hS.r.names hsk
              rw [partLoop_eq] at hO
              have HO := Aside.mk hO
              have HS := Aside.mk hS
              have HSK := Aside.mk hsk
              clear hO hS hsk
              obtain ⟨i2, hi2⟩ : ∃ i2, scanUp (fun x => ltN x dk[a]!) dk j i = i2 := ⟨_, rfl⟩
              rw [hi2] at HO
              obtain ⟨j2, hj2⟩ : ∃ j2, scanDown (fun x => !ltN x dk[a]!) dk i2 j = j2 := ⟨_, rfl⟩
              rw [hj2] at HO
              have HU := Aside.mk hi2
              have HD := Aside.mk hj2
              have HF := Aside.mk (show i ≤ i2 ∧ i2 ≤ j + 1 ∧ j2 ≤ j ∧ i2 ≤ j2 + 1 from by
                obtain ⟨a1, a2, _, _⟩ := scanUp_spec (fun x => ltN x dk[a]!) dk j _ (i) rfl
                obtain ⟨b1, b2, _, _⟩ := scanDown_spec (fun x => !ltN x dk[a]!) dk i2 j
                rw [hi2] at a1 a2
                rw [hj2] at b1 b2
                have := a2 hij
                exact ⟨a1, this, b1, b2 this⟩)
              clear hi2 hj2
              go_wp2_with fail
              go_loopw [10] (fun vi wr2 => ∃ (i' q : Nat), vi = .int .i64 i' ∧ i ≤ i' ∧ i' ≤ j + 1 ∧ wr2 = wr.drewN q ∧ scanUp (fun x => ltN x dk[a]!) dk j i' = i2) (fun vi _ => j + 1 - natOf vi)
              case atStart => exact ⟨i, 0, by first | rfl | go_num, Nat.le_refl _, hij, rfl, HU.it⟩
              case round =>
                obtain ⟨i', q, rfl, hii, hij', rfl, hU⟩ := hrel
                have HU2 := Aside.mk hU
                clear hU
                have hcw2 : ∀ t, t < N → (wr.drewN q).cell? ⟨g, off + t, none⟩ = some (.int .u32 (G t : Nat)) := hcw
                go_upto_region 13 with fail
                go_cut [112] from 99 to 114 (fun v wx => ∃ q', v = .bool (decide (i' ≤ j) && ltN dk[i']! dk[a]!) ∧ wx = wr.drewN q')
                case first =>
                  generalize hW : wr.drewN q = W at hcw2 ⊢
                  have HW := Aside.mk hW
                  clear hW
                  by_cases h1 : i' ≤ j
                  · have h1z : (i' : Int) ≤ j := by omega
                    go_wp2_with fail
                    go_big_quiet (first | (go_at_call 53; refine Calls.quiet_of_same (less32 _ _ _)))
                    go_wp2_with fail
                    go_meet
                    case rel =>
                      refine ⟨q + nq, ?_, by rw [← HW.it]; exact World.drewN_drewN _ _ _⟩
                      rw [← HG.it, ← HG.it]
                      simp [h1]
                  · have h1z : decide ((i' : Int) ≤ j) = false := decide_eq_false (by omega)
                    go_wp2_with fail
                    go_big_quiet (first | (go_at_call 53; refine Calls.quiet_of_same (less32 _ _ _)))
                    go_wp2_with fail
                    go_meet
                    case rel =>
                      refine ⟨q + nq, ?_, by rw [← HW.it]; exact World.drewN_drewN _ _ _⟩
                      simp [h1]
                case rest =>
                obtain ⟨q', rfl, rfl⟩ := hcut
                obtain ⟨cb, hcb⟩ : ∃ cb, (decide (i' ≤ j) && ltN dk[i']! dk[a]!) = cb := ⟨_, rfl⟩
                rw [hcb]
                have HCB := Aside.mk hcb
                clear hcb hcw2
                cases cb
                · have e2 : i' = i2 := by rw [← HU2.it, up_stop _ _ _ _ HCB.it]
                  subst e2
                  go_wp2_with fail
                  go_loopw [11] (fun vj wr2 => ∃ (j' q : Nat), vj = .int .i64 j' ∧ j' ≤ j ∧ i' ≤ j' + 1 ∧ wr2 = wr.drewN q ∧ scanDown (fun x => !ltN x dk[a]!) dk i' j' = j2) (fun vj _ => natOf vj)
                  case atStart => exact ⟨j, q', rfl, Nat.le_refl _, hij', rfl, HD.it⟩
                  case round =>
                    obtain ⟨j', q3, rfl, hjj, hij3, rfl, hD⟩ := hrel
                    have HD2 := Aside.mk hD
                    clear hD
                    have hcw3 : ∀ t, t < N → (wr.drewN q3).cell? ⟨g, off + t, none⟩ = some (.int .u32 (G t : Nat)) := hcw
                    go_upto_region 15 with fail
                    go_cut [129] from 115 to 131 (fun v wx => ∃ q', v = .bool (decide (i' ≤ j') && !ltN dk[j']! dk[a]!) ∧ wx = wr.drewN q')
                    case first =>
                      generalize hW : wr.drewN q3 = W at hcw3 ⊢
                      have HW := Aside.mk hW
                      clear hW
                      by_cases h1 : i' ≤ j'
                      · have h1z : (i' : Int) ≤ j' := by omega
                        go_wp2_with fail
                        go_big_quiet (first | (go_at_call 53; refine Calls.quiet_of_same (less32 _ _ _)))
                        go_wp2_with fail
                        go_meet
                        case rel =>
                          refine ⟨q3 + nq, ?_, by rw [← HW.it]; exact World.drewN_drewN _ _ _⟩
                          rw [← HG.it, ← HG.it]
                          simp [h1]
                      · have h1z : decide ((i' : Int) ≤ j') = false := decide_eq_false (by omega)
                        go_wp2_with fail
                        go_big_quiet (first | (go_at_call 53; refine Calls.quiet_of_same (less32 _ _ _)))
                        go_wp2_with fail
                        go_meet
                        case rel =>
                          refine ⟨q3 + nq, ?_, by rw [← HW.it]; exact World.drewN_drewN _ _ _⟩
                          simp [h1]
                    case rest =>
                    obtain ⟨q4, rfl, rfl⟩ := hcut
                    obtain ⟨cb, hcb⟩ : ∃ cb, (decide (i' ≤ j') && !ltN dk[j']! dk[a]!) = cb := ⟨_, rfl⟩
                    rw [hcb]
                    have HCB2 := Aside.mk hcb
                    clear hcb hcw3
                    cases cb
                    · have e3 : j' = j2 := by rw [← HD2.it, dn_stop _ _ _ _ HCB2.it]
                      subst e3
                      have hcw4 : ∀ t, t < N → (wr.drewN q4).cell? ⟨g, off + t, none⟩ = some (.int .u32 (G t : Nat)) := hcw
                      have hfw4 : ∀ t, t < N → (wr.drewN q4).frozen? ⟨g, off + t, none⟩ = false := hfw
                      have S4 := Aside.mk (HS.it.drewN q4)
                      clear hcw hfw
                      generalize wr.drewN q4 = W at hcw4 hfw4 S4 ⊢
                      have hmid : a ≤ j' := by omega
                      have hF := HF.it
                      by_cases hgt : j' < i'
                      · have hgz : (j' : Int) < i' := by omega
                        rcases Nat.eq_or_lt_of_le hmid with rfl | hlt
                        all_goals
                          go_wp2_with fail
                          go_region
                          all_goals go_wp2
                          go_returns
                        all_goals
                          refine ⟨false, ?_, ⟨?_⟩⟩
                          · rw [partition_fst, HE.it, ← HO.it, if_pos hgt]
                            rfl
                          · rw [partition_arr, HE.it, ← HO.it, if_pos hgt]
                            have := S4.it.drew.swap _ a (by rw [HSK.it]; exact Nat.lt_of_le_of_lt hF.2.2.1 (by omega)) (by rw [HSK.it]; omega)
                            simp only [← HG.it] at this
                            exact this
                      · have hgz : ¬ (j' : Int) < i' := by omega
                        have hne : i' < j' := scan_ne _ _ (fun x => by simp) dk i j i' j' (by omega) HU.it HD.it (by omega)
                        go_wp2_with fail
                        go_region
                        all_goals go_wp2_with fail
                        have S5 := S4.it.drew.swap i' j' (by rw [HSK.it]; omega) (by rw [HSK.it]; omega)
                        rw [← HG.it, ← HG.it] at S5
                        go_roundw
                        case rel =>
                          refine ⟨i' + 1, j' - 1, swp dk i' j', by go_num, by congr 1; omega, by omega, by omega, by omega, by rw [size_swp]; exact HSK.it, S5, ?_⟩
                          rw [← HO.it, if_neg hgt]
                        case measure => simp [natOf]; omega
                    · have hb3 := HCB2.it
                      simp only [Bool.and_eq_true, decide_eq_true_eq] at hb3
                      have hb4 := hb3.1
                      clear hb3
                      go_wp2_with fail
                      go_roundw
                      case rel => exact ⟨j' - 1, q4, by congr 1; omega, by omega, by omega, rfl, by rw [← HD2.it, dn_go _ _ _ j' (by omega) HCB2.it]⟩
                      case measure => simp [natOf]; omega
                · have hb3 := HCB.it
                  simp only [Bool.and_eq_true, decide_eq_true_eq] at hb3
                  have hb4 := hb3.1
                  clear hb3
                  go_wp2_with fail
                  go_roundw
                  case rel => exact ⟨i' + 1, q', by go_num, by omega, by omega, rfl, by rw [← HU2.it, up_go _ _ _ i' HCB.it]⟩
                  case measure => simp [natOf]; omega
        · have hb3 := HCB2.it
          simp only [Bool.and_eq_true, decide_eq_true_eq] at hb3
          have hb4 := hb3.1
          clear hb3
          go_wp2_with fail
          go_roundw
          case rel => exact ⟨j' - 1, q4, by congr 1; omega, by omega, by omega, rfl, by rw [← HD2.it, dn_go _ _ _ j' (by omega) HCB2.it]⟩
          case measure => simp [natOf]; omega
    · have hb3 := HCB.it
      simp only [Bool.and_eq_true, decide_eq_true_eq] at hb3
      have hb4 := hb3.1
      clear hb3
      go_wp2_with fail
      go_roundw
      case rel => exact ⟨i' + 1, q', by go_num, by omega, by omega, rfl, by rw [← HU2.it, up_go _ _ _ i' HCB.it]⟩
      case measure => simp [natOf]; omega
end Go.Proofs.YtnmpnajmhfonhaaDoor
