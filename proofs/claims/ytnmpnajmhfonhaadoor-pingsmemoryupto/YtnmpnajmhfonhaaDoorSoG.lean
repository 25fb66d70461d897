/-
  slices.Sort of numbers of 32 bits: partitionEqual
-/
import Derived.Test.YtnmpnajmhfonhaaDoorSoB
import Derived.BigRegion
import Derived.Handy
import Derived.Deep.DeepCutAuto
namespace Go.Proofs.YtnmpnajmhfonhaaDoor
open Go.RowKit Go.Sort

section
variable {α : Type} [Inhabited α]
theorem up_go (p : α → Bool) (d : Array α) (j i : Nat) (h : (decide (i ≤ j) && p d[i]!) = true) : scanUp p d j i = scanUp p d j (i + 1) := by
  conv => lhs; rw [scanUp, if_pos h]
theorem up_stop (p : α → Bool) (d : Array α) (j i : Nat) (h : (decide (i ≤ j) && p d[i]!) = false) : scanUp p d j i = i := by
  rw [scanUp, if_neg (by simp [h])]
theorem dn_go (p : α → Bool) (d : Array α) (i j : Nat) (h1 : 1 ≤ i) (h : (decide (i ≤ j) && p d[j]!) = true) : scanDown p d i j = scanDown p d i (j - 1) := by
  cases j with
  | zero => simp at h; omega
  | succ k => conv => lhs; rw [scanDown, if_pos h]
              rfl
theorem dn_stop (p : α → Bool) (d : Array α) (i j : Nat) (h : (decide (i ≤ j) && p d[j]!) = false) : scanDown p d i j = j := by
  cases j with
  | zero => rfl
  | succ k => rw [scanDown, if_neg (by simp [h])]
theorem scan_ne (p q : α → Bool) (hq : ∀ x, q x = !p x) (d : Array α) (i j i2 j2 : Nat) (h1 : 1 ≤ i) (hi : scanUp p d j i = i2) (hj : scanDown q d i2 j = j2) (h : i2 ≤ j2) : i2 < j2 := by
  obtain ⟨a1, _, _, a4⟩ := scanUp_spec p d j _ i rfl
  obtain ⟨b1, _, _, b4⟩ := scanDown_spec q d i2 j
  rw [hi] at a1 a4
  rw [hj] at b1 b4
  rcases Nat.eq_or_lt_of_le h with e | e
  · have x1 := a4 (by omega)
    have x2 := b4 h (by omega)
    rw [← e, hq, x1] at x2
    cases x2
  · exact e
end

set_option maxHeartbeats 2000000 in
theorem partEq32 (g off cap a b pv : Nat) (d : Array Nat) (w : World) (h : Ro w g off cap d) (ha : a ≤ pv) (hp : pv < b) (hb : b ≤ d.size) (hs : d.size ≤ 4611686018427387903) :
    Calls Tryd.prog 54 #[.slice (some ⟨g, off, none⟩) d.size cap, .int .i64 a, .int .i64 b, .int .i64 pv] w fun e w' =>
      e = .returned (.int .i64 (Sort.partitionEqual ltN d a b pv).1) ∧ Aside (So w g off cap (Sort.partitionEqual ltN d a b pv).2 w') := by
  obtain ⟨N, hN⟩ : ∃ N, d.size = N := ⟨_, rfl⟩
  obtain ⟨G0, HG0, hcw0, hfw0⟩ := h.names hN
  have H := Aside.mk h
  have HN := Aside.mk hN
  have hcap : N ≤ cap := hN ▸ h.le
  rw [hN] at hb hs ⊢
  clear h hN
  go_enter Tryd.func54, Tryd.ntmps54
  go_upto_region 1 with fail
  go_cut [8] (fun v wx => v = .int .i64 0 ∧ Aside (So w g off cap (swp d a pv) wx))
  case first =>
    rcases Nat.eq_or_lt_of_le ha with rfl | hlt
    · go_region
      all_goals go_wp2_with fail
      go_meet
      case rel =>
        have := (So.refl H.it).drew.swap a a (by rw [HN.it]; omega) (by rw [HN.it]; omega)
        rw [← HG0.it] at this
        exact ⟨rfl, ⟨this⟩⟩
    · go_region
      all_goals go_wp2_with fail
      go_meet
      case rel =>
        have := (So.refl H.it).drew.swap a pv (by rw [HN.it]; omega) (by rw [HN.it]; omega)
        rw [← HG0.it, ← HG0.it] at this
        exact ⟨rfl, ⟨this⟩⟩
  case rest =>
  obtain ⟨rfl, S0⟩ := hcut
  have e0 : (b : Int) - 1 = (b - 1 : Nat) := by omega
  obtain ⟨j0, hj0⟩ : ∃ j0, b - 1 = j0 := ⟨_, rfl⟩
  have HE := Aside.mk (show Sort.partitionEqual ltN d a b pv = partEqLoop ltN a (a + 1) j0 (swp d a pv) by rw [← hj0]; rfl)
  rw [hj0] at e0
  have hj1 : j0 < b := by omega
  have hj2 : a ≤ j0 := by omega
  clear hj0 hcw0 hfw0
  have HZ := Aside.mk (show (swp d a pv).size = N by rw [size_swp]; exact HN.it)
  generalize swp d a pv = d0 at S0 HE HZ
  go_wp2_with fail
  go_loopw [9, 10] (fun vi vj wr => ∃ (i j : Nat) (dk : Array Nat), vi = .int .i64 i ∧ vj = .int .i64 j ∧ a < i ∧ i ≤ j + 1 ∧ j < b ∧ dk.size = N ∧ So w g off cap dk wr ∧ partEqLoop ltN a i j dk = partEqLoop ltN a (a + 1) j0 d0) (fun vi vj _ => natOf vj + 1 - natOf vi)
  case atStart => exact ⟨a + 1, j0, d0, by go_num, rfl, by omega, by omega, hj1, HZ.it, S0.it, rfl⟩
  case round =>
    obtain ⟨i, j, dk, rfl, rfl, hai, hij, hjb, hsk, hS, hO⟩ := hrel
    obtain ⟨G, HG, hcw, hfw⟩ := hS.r.names hsk
    rw [partEqLoop_eq] at hO
    have HO := Aside.mk hO
    have HS := Aside.mk hS
    have HSK := Aside.mk hsk
    clear hO hS hsk
    obtain ⟨i2, hi2⟩ : ∃ i2, scanUp (fun x => !ltN dk[a]! x) dk j i = i2 := ⟨_, rfl⟩
    rw [hi2] at HO
    obtain ⟨j2, hj2⟩ : ∃ j2, scanDown (fun x => ltN dk[a]! x) dk i2 j = j2 := ⟨_, rfl⟩
    rw [hj2] at HO
    have HU := Aside.mk hi2
    have HD := Aside.mk hj2
    have HF := Aside.mk (show i ≤ i2 ∧ i2 ≤ j + 1 ∧ j2 ≤ j ∧ i2 ≤ j2 + 1 from by
      obtain ⟨a1, a2, _, _⟩ := scanUp_spec (fun x => !ltN dk[a]! x) dk j _ i rfl
      obtain ⟨b1, b2, _, _⟩ := scanDown_spec (fun x => ltN dk[a]! x) dk i2 j
      rw [hi2] at a1 a2
      rw [hj2] at b1 b2
      have := a2 hij
      exact ⟨a1, this, b1, b2 this⟩)
    clear hi2 hj2
    go_wp2_with fail
    go_loopw [9] (fun vi wr2 => ∃ (i' q : Nat), vi = .int .i64 i' ∧ i ≤ i' ∧ i' ≤ j + 1 ∧ wr2 = wr.drewN q ∧ scanUp (fun x => !ltN dk[a]! x) dk j i' = i2) (fun vi _ => j + 1 - natOf vi)
    case atStart => exact ⟨i, 0, rfl, Nat.le_refl _, hij, rfl, HU.it⟩
    case round =>
      obtain ⟨i', q, rfl, hii, hij', rfl, hU⟩ := hrel
      have HU2 := Aside.mk hU
      clear hU
      have hcw2 : ∀ t, t < N → (wr.drewN q).cell? ⟨g, off + t, none⟩ = some (.int .u32 (G t : Nat)) := hcw
      go_upto_region 3 with fail
      go_cut [43] from 29 to 45 (fun v wx => ∃ q', v = .bool (decide (i' ≤ j) && !ltN dk[a]! dk[i']!) ∧ wx = wr.drewN q')
      case first =>
        generalize hW : wr.drewN q = W at hcw2 ⊢
        have HW := Aside.mk hW
        clear hW
        by_cases h1 : i' ≤ j
        · have h1z : (i' : Int) ≤ j := by omega
          go_wp2_with fail
          go_big_quiet (first | (go_at_call 53; refine Calls.quiet_of_same (less32 _ _ _)))
          go_wp2_with fail
          go_meet
          case rel =>
            refine ⟨q + nq, ?_, by rw [← HW.it]; exact World.drewN_drewN _ _ _⟩
            rw [← HG.it, ← HG.it]
            simp [h1]
        · have h1z : decide ((i' : Int) ≤ j) = false := decide_eq_false (by omega)
          go_wp2_with fail
          go_big_quiet (first | (go_at_call 53; refine Calls.quiet_of_same (less32 _ _ _)))
          go_wp2_with fail
          go_meet
          case rel =>
            refine ⟨q + nq, ?_, by rw [← HW.it]; exact World.drewN_drewN _ _ _⟩
            simp [h1]
      case rest =>
      obtain ⟨q', rfl, rfl⟩ := hcut
      obtain ⟨cb, hcb⟩ : ∃ cb, (decide (i' ≤ j) && !ltN dk[a]! dk[i']!) = cb := ⟨_, rfl⟩
      rw [hcb]
      have HCB := Aside.mk hcb
      clear hcb hcw2
      cases cb
      · have e2 : i' = i2 := by rw [← HU2.it, up_stop _ _ _ _ HCB.it]
        subst e2
        go_wp2_with fail
        go_loopw [10] (fun vj wr2 => ∃ (j' q : Nat), vj = .int .i64 j' ∧ j' ≤ j ∧ i' ≤ j' + 1 ∧ wr2 = wr.drewN q ∧ scanDown (fun x => ltN dk[a]! x) dk i' j' = j2) (fun vj _ => natOf vj)
        case atStart => exact ⟨j, q', rfl, Nat.le_refl _, hij', rfl, HD.it⟩
        case round =>
          obtain ⟨j', q3, rfl, hjj, hij3, rfl, hD⟩ := hrel
          have HD2 := Aside.mk hD
          clear hD
          have hcw3 : ∀ t, t < N → (wr.drewN q3).cell? ⟨g, off + t, none⟩ = some (.int .u32 (G t : Nat)) := hcw
          go_upto_region 5 with fail
          go_cut [59] from 46 to 61 (fun v wx => ∃ q', v = .bool (decide (i' ≤ j') && ltN dk[a]! dk[j']!) ∧ wx = wr.drewN q')
          case first =>
            generalize hW : wr.drewN q3 = W at hcw3 ⊢
            have HW := Aside.mk hW
            clear hW
            by_cases h1 : i' ≤ j'
            · have h1z : (i' : Int) ≤ j' := by omega
              go_wp2_with fail
              go_big_quiet (first | (go_at_call 53; refine Calls.quiet_of_same (less32 _ _ _)))
              go_wp2_with fail
              go_meet
              case rel =>
                refine ⟨q3 + nq, ?_, by rw [← HW.it]; exact World.drewN_drewN _ _ _⟩
                rw [← HG.it, ← HG.it]
                simp [h1]
            · have h1z : decide ((i' : Int) ≤ j') = false := decide_eq_false (by omega)
              go_wp2_with fail
              go_big_quiet (first | (go_at_call 53; refine Calls.quiet_of_same (less32 _ _ _)))
              go_wp2_with fail
              go_meet
              case rel =>
                refine ⟨q3 + nq, ?_, by rw [← HW.it]; exact World.drewN_drewN _ _ _⟩
                simp [h1]
          case rest =>
          obtain ⟨q4, rfl, rfl⟩ := hcut
          obtain ⟨cb, hcb⟩ : ∃ cb, (decide (i' ≤ j') && ltN dk[a]! dk[j']!) = cb := ⟨_, rfl⟩
          rw [hcb]
          have HCB2 := Aside.mk hcb
          clear hcb hcw3
          cases cb
          · have e3 : j' = j2 := by rw [← HD2.it, dn_stop _ _ _ _ HCB2.it]
            subst e3
            by_cases hgt : j' < i'
            · have hgz : (j' : Int) < i' := by omega
              go_wp2_with fail
              go_ret
              refine ⟨?_, ⟨?_⟩⟩
              · rw [HE.it, ← HO.it, if_pos hgt]
                rfl
              · rw [HE.it, ← HO.it, if_pos hgt]
                exact HS.it.drewN q4
            · have hgz : ¬ (j' : Int) < i' := by omega
              have hne : i' < j' := scan_ne _ _ (fun x => by simp) dk i j i' j' (by omega) HU.it HD.it (by omega)
              have hcw4 : ∀ t, t < N → (wr.drewN q4).cell? ⟨g, off + t, none⟩ = some (.int .u32 (G t : Nat)) := hcw
              have hfw4 : ∀ t, t < N → (wr.drewN q4).frozen? ⟨g, off + t, none⟩ = false := hfw
              have S4 := Aside.mk (HS.it.drewN q4)
              clear hcw hfw
              generalize wr.drewN q4 = W at hcw4 hfw4 S4 ⊢
              go_wp2_with fail
              go_region
              all_goals go_wp2
              go_roundw
              case rel =>
                refine ⟨i' + 1, j' - 1, swp dk i' j', by go_num, by congr 1; omega, by omega, by omega, by omega, by rw [size_swp]; exact HSK.it, ?_, ?_⟩
                · have := S4.it.drew.swap i' j' (by rw [HSK.it]; omega) (by rw [HSK.it]; omega)
                  rw [← HG.it, ← HG.it] at this
                  exact this
                · rw [← HO.it, if_neg hgt]
              case measure => simp [natOf]; have := HF.it; omega
          · have hb3 := HCB2.it
            simp only [Bool.and_eq_true, decide_eq_true_eq] at hb3
            have hb4 := hb3.1
            clear hb3
            go_wp2_with fail
            go_roundw
            case rel => exact ⟨j' - 1, q4, by congr 1; omega, by omega, by omega, rfl, by rw [← HD2.it, dn_go _ _ _ j' (by omega) HCB2.it]⟩
            case measure => simp [natOf]; omega
      · have hb3 := HCB.it
        simp only [Bool.and_eq_true, decide_eq_true_eq] at hb3
        have hb4 := hb3.1
        clear hb3
        go_wp2_with fail
        go_roundw
        case rel => exact ⟨i' + 1, q', by go_num, by omega, by omega, rfl, by rw [← HU2.it, up_go _ _ _ i' HCB.it]⟩
        case measure => simp [natOf]; omega
end Go.Proofs.YtnmpnajmhfonhaaDoor
