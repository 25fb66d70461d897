/-
  law 12: fair
-/
import Derived.Test.YtekokdfajbajoaaFrP12
import Derived.Test.YtekokdfajbajoaaRf12
namespace Go.Proofs.Ytekokdfajbajoaa
open Go.RowKit

variable {w w' : World} {v : Value} {T : List Int} {stay most : Nat}

theorem take_snoc {T : List Int} {m : Nat} {u : Int} (hu : T[m]? = some u) : T.take (m + 1) = T.take m ++ [u] := by rw [List.take_add_one, hu]; rfl
set_option maxHeartbeats 4000000 in
set_option maxRecDepth 20000 in
theorem fair12 (h : RdI w v T) (hT : T.length ≤ 8796093022208) (hs1 : 1 ≤ stay) (hs : stay ≤ 40) (hm : most ≤ 17592186044416) (gap : ∀ j, j < stay → Gap (st j) most T) (last : ∀ j, j < stay → since (st j) T < most)
    (bt : ∀ j j', j < stay → j' < stay → j ≠ j' → Bt (st j) (st j') T) : Calls Try.prog 16 #[v, .int .i64 stay, .int .i64 most] w fun e w' => e = .returned (.bool true) ∧ w' = w := by
  obtain ⟨pa, ca, rfl, hca⟩ := h.shape
  obtain ⟨l, hn⟩ : ∃ l, l = T.length := ⟨_, rfl⟩
  rw [← hn] at hT ⊢
  have CA := Aside.mk hca
  have HN := Aside.mk hn
  have GP := Aside.mk gap
  have LT := Aside.mk last
  have BT := Aside.mk bt
  have hlb : (l : Int) ≤ 8796093022208 := by omega
  have hmb : (most : Int) ≤ 17592186044416 := by omega
  have hsb : (stay : Int) ≤ 40 := by omega
  clear hca h hn gap last bt
  go_enter Try.func16, Try.ntmps16
  go_wp2_with fail
  go_loopw [7] (fun kv wr => ∃ j : Nat, kv = .int .i64 j ∧ j ≤ stay ∧ wr = w) (fun kv _ => stay - (intOf kv).toNat)
  case atStart => exact ⟨0, rfl, Nat.zero_le _, rfl⟩
  case round =>
    obtain ⟨j, rfl, hj, rfl⟩ := hrel
    by_cases hlt : j < stay
    · have hlt' : (j : Int) < (stay : Int) := by omega
      have G := Aside.mk (GP.it j hlt)
      have L := Aside.mk (LT.it j hlt)
      obtain ⟨s, hs⟩ : ∃ s, s = st j := ⟨_, rfl⟩
      rw [← hs] at G L
      have es : -1 - (j : Int) = s := hs.symm
      have sb : -41 ≤ s ∧ s ≤ -1 := by rw [← es]; omega
      go_wp2_with fail
      go_loopw [8, 9] (fun lv iv wx => ∃ m : Nat, iv = .int .i64 m ∧ m ≤ l ∧ lv = .int .i64 ((m : Int) - 1 - (since s (T.take m) : Int)) ∧ wx = wr) (fun _ iv _ => l - (intOf iv).toNat)
      case atStart => exact ⟨0, rfl, Nat.zero_le _, by simp [since], rfl⟩
      case round =>
        obtain ⟨m, rfl, hm2, rfl, rfl⟩ := hrel
        have hsl := since_le s T m (by have := HN.it; omega)
        obtain ⟨d, hd⟩ : ∃ d, d = since s (T.take m) := ⟨_, rfl⟩
        rw [← hd] at hsl
        by_cases hml : m < l
        · have hml' : (m : Int) < (l : Int) := by omega
          obtain ⟨u, hu⟩ : ∃ u, T[m]? = some u := ⟨_, List.getElem?_eq_getElem (by have := HN.it; omega)⟩
          obtain ⟨xb, xo, rfl, hx⟩ := CA.it m u hu
          have HU := Aside.mk hu
          have hnx : since s (T.take (m + 1)) = if u = s then 0 else d + 1 := by rw [take_snoc hu, since_snoc, hd]
          clear CA
          by_cases hus : u = s
          · have hgd : d < most := by rw [hd]; exact G.it m (by rw [hu, hus])
            have HX := Aside.mk hnx
            have HD := Aside.mk hd
            clear hnx hu hs
            rw [← hd]
            clear hd
            have e1 : (m : Int) - ((m : Int) - 1 - (d : Int)) = d + 1 := by omega
            have e2 : ¬ ((d : Int) + 1 > (most : Int)) := by omega
            go_wp2_with fail
            refine ⟨⟨m + 1, by go_num, by omega, by rw [HX.it, if_pos hus]; congr 1; omega, trivial⟩, by simp [intOf]; omega⟩
          · have HX := Aside.mk hnx
            have HD := Aside.mk hd
            clear hnx hu hs
            rw [← hd]
            clear hd
            go_wp2_with fail
            refine ⟨⟨m + 1, by go_num, by omega, by rw [HX.it, if_neg hus]; congr 1; omega, trivial⟩, by simp [intOf]; omega⟩
        · obtain rfl : m = l := by omega
          have hdl : d < most := by
            have := L.it
            rwa [← List.take_length (l := T), ← HN.it, ← hd] at this
          rw [← hd]
          obtain ⟨j', hj'⟩ : ∃ j', j' = (j + 1) % stay := ⟨_, rfl⟩
          have hj's : j' < stay := by rw [hj']; exact Nat.mod_lt _ (by omega)
          have e1 : (m : Int) - 1 - ((m : Int) - 1 - (d : Int)) = d := by omega
          have e2 : ¬ ((d : Int) ≥ (most : Int)) := by omega
          have e3 : ((j : Int) + 1).tmod (stay : Int) = (j' : Int) := by
            rw [hj', show ((j : Int) + 1) = ((j + 1 : Nat) : Int) from by omega, Int.tmod_eq_emod_of_nonneg (by omega)]
            rfl
          have e4 : ¬ (stay : Int) = 0 := by omega
          obtain ⟨o, ho⟩ : ∃ o, o = st j' := ⟨_, rfl⟩
          have eo : -1 - (j' : Int) = o := ho.symm
          have ob : -41 ≤ o ∧ o ≤ -1 := by rw [← eo]; omega
          by_cases h1 : ¬ 1 < stay
          · have h1' : ¬ (stay : Int) > 1 := by omega
            clear hd hj' ho hs h1
            go_wp2_with fail
            go_loopw [11, 12] (fun bv iv wx => bv = .int .i64 0 ∧ iv = .int .i64 0 ∧ wx = wr) (fun _ _ _ => 0)
            case atStart => exact ⟨rfl, rfl, rfl⟩
            case round =>
              obtain ⟨rfl, rfl, rfl⟩ := hrel
              by_cases h0 : (0 : Int) < (m : Int)
              · go_wp2_with fail
                first
                  | exact ⟨⟨j + 1, by go_num, by omega, trivial⟩, by simp [intOf]; omega⟩
                  | (go_roundw; case rel => exact ⟨j + 1, by go_num, by omega, rfl⟩; case measure => simp [intOf]; omega)
              · go_wp2_with fail
                first
                  | exact ⟨⟨j + 1, by go_num, by omega, trivial⟩, by simp [intOf]; omega⟩
                  | (go_roundw; case rel => exact ⟨j + 1, by go_num, by omega, rfl⟩; case measure => simp [intOf]; omega)
          · have h1' : (stay : Int) > 1 := by omega
            have hne : j ≠ j' := by
              intro e
              rw [hj'] at e
              rcases Nat.lt_or_ge (j + 1) stay with h | h
              · rw [Nat.mod_eq_of_lt h] at e; omega
              · obtain rfl : stay = j + 1 := by omega
                rw [Nat.mod_self] at e; omega
            have B := Aside.mk (BT.it j j' hlt hj's hne)
            rw [← hs, ← ho] at B
            clear hd hj' ho hs hne
            go_wp2_with fail
            go_loopw [11, 12] (fun bv iv wx => ∃ n : Nat, bv = .int .i64 (cnt s o (T.take n) : Nat) ∧ iv = .int .i64 n ∧ n ≤ m ∧ wx = wr) (fun _ iv _ => m - (intOf iv).toNat)
            case atStart => exact ⟨0, by simp [cnt], rfl, Nat.zero_le _, rfl⟩
            case round =>
              obtain ⟨n, rfl, rfl, hnm, rfl⟩ := hrel
              have hc1 := B.it n (by have := HN.it; omega)
              obtain ⟨c, hc⟩ : ∃ c, c = cnt s o (T.take n) := ⟨_, rfl⟩
              rw [← hc] at hc1 ⊢
              by_cases hml : n < m
              · have hml' : (n : Int) < (m : Int) := by omega
                obtain ⟨u, hu⟩ : ∃ u, T[n]? = some u := ⟨_, List.getElem?_eq_getElem (by have := HN.it; omega)⟩
                obtain ⟨xb, xo, rfl, hx⟩ := CA.it n u hu
                have hnx : cnt s o (T.take (n + 1)) = if u = s then (if u = o then 0 else c) + 1 else if u = o then 0 else c := by rw [take_snoc hu, cnt_snoc, hc]
                have hc2 := B.it (n + 1) (by have := HN.it; omega)
                clear CA
                by_cases hus : u = s
                · by_cases huo : u = o
                  · rw [if_pos hus, if_pos huo] at hnx
                    have HX := Aside.mk hnx
                    clear hnx hc hu hc2
                    go_wp2_with fail
                    exact ⟨⟨n + 1, by rw [HX.it]; rfl, by go_num, by omega, trivial⟩, by simp [intOf]; omega⟩
                  · rw [if_pos hus, if_neg huo] at hnx
                    rw [hnx] at hc2
                    have c0 : c = 0 := by omega
                    subst c0
                    have HX := Aside.mk hnx
                    clear hnx hc hu hc2
                    go_wp2_with fail
                    exact ⟨⟨n + 1, by rw [HX.it]; rfl, by go_num, by omega, trivial⟩, by simp [intOf]; omega⟩
                · by_cases huo : u = o
                  · rw [if_neg hus, if_pos huo] at hnx
                    have HX := Aside.mk hnx
                    clear hnx hc hu hc2
                    go_wp2_with fail
                    exact ⟨⟨n + 1, by rw [HX.it]; rfl, by go_num, by omega, trivial⟩, by simp [intOf]; omega⟩
                  · rw [if_neg hus, if_neg huo] at hnx
                    have c1 : ¬ (c : Int) > 1 := by omega
                    have HX := Aside.mk hnx
                    clear hnx hc hu hc2
                    go_wp2_with fail
                    exact ⟨⟨n + 1, by rw [HX.it], by go_num, by omega, trivial⟩, by simp [intOf]; omega⟩
              · obtain rfl : n = m := by omega
                clear hc
                go_wp2_with fail
                exact ⟨⟨j + 1, by go_num, by omega, trivial⟩, by simp [intOf]; omega⟩
    · obtain rfl : j = stay := by omega
      go_wp2_with fail
      go_ret
      exact ⟨rfl, rfl⟩
end Go.Proofs.Ytekokdfajbajoaa
