/-
  culvertref11: Find, Count, Forget, Without
-/
import Derived.Test.YtialmmobkmdfpaaDoorLnF
import Derived.Test.YtialmmobkmdfpaaDoorLnC2
namespace Go.Proofs.YtialmmobkmdfpaaDoor
open Go.RowKit

variable {A : Nat → Addr} {w w' w0 : World} {L : List Tk}

def fndI (L : List Tk) (kind : Int) (s : Nat) : Int := match L.findIdx? (isT kind s) with | some i => i | none => -1
theorem fnd_take (L : List Tk) (kind : Int) (s : Nat) (j : Nat) (t : Tk) (h : L[j]? = some t) (hn : ∀ u ∈ L.take j, isT kind s u = false) (ht : isT kind s t = true) : fndI L kind s = j := by
  have : L.findIdx? (isT kind s) = some j := by
    rw [List.findIdx?_eq_some_iff_getElem]
    obtain ⟨hj, he⟩ := List.getElem?_eq_some_iff.1 h
    refine ⟨hj, by rw [he]; exact ht, fun i hi => ?_⟩
    have := hn (L[i]'(by omega)) (List.mem_take_iff_getElem.2 ⟨i, by omega, rfl⟩)
    simpa using this
  unfold fndI
  rw [this]
theorem fnd_none (L : List Tk) (kind : Int) (s : Nat) (hn : ∀ u ∈ L, isT kind s u = false) : fndI L kind s = -1 := by
  have : L.findIdx? (isT kind s) = none := by
    rw [List.findIdx?_eq_none_iff]
    exact hn
  unfold fndI
  rw [this]
theorem take_false (L : List Tk) (f : Tk → Bool) (j : Nat) (t : Tk) (h : L[j]? = some t) (hn : ∀ u ∈ L.take j, f u = false) (ht : f t = false) : ∀ u ∈ L.take (j + 1), f u = false := by
  rw [List.take_add_one, h]
  intro u hu
  rcases List.mem_append.1 hu with hu | hu
  · exact hn u hu
  · simp only [Option.toList_some, List.mem_singleton] at hu
    rw [hu]; exact ht

set_option maxHeartbeats 1000000 in
theorem findR (v : Value) (L : List Tk) (kind : Int) (s : Nat) (hv : RdT w v L) : Calls Tryd.prog 29 #[v, .int .i64 kind, .int .u32 s] w fun e w' => e = .returned (.int .i64 (fndI L kind s)) ∧ Aside (Keeps Nowhere w w') := by
  obtain ⟨qa, ca, rfl, hla, hma, ha⟩ := hv.at
  obtain ⟨N, hN⟩ : ∃ N, N = L.length := ⟨_, rfl⟩
  rw [← hN] at hla ⊢
  have HN := Aside.mk hN
  have HA := Aside.mk ha
  have hn1 : (N : Int) ≤ 9223372036854775807 := by unfold maxLen at hma; omega
  clear hN ha hma
  go_enter Tryd.func29, Tryd.ntmps29
  go_wp2_with fail
  go_loopw [7] (fun i wr => ∃ j : Nat, i = .int .i64 j ∧ j ≤ N ∧ Aside (∀ u ∈ L.take j, isT kind s u = false) ∧ Aside (Keeps Nowhere w wr)) (fun i _ => N - (intOf i).toNat)
  case atStart => exact ⟨0, rfl, Nat.zero_le _, ⟨fun u hu => by simp at hu⟩, ⟨Keeps.refl _ _⟩⟩
  case round =>
    obtain ⟨j, rfl, hj, HF, hk⟩ := hrel
    rcases Nat.eq_or_lt_of_le hj with rfl | hlt
    · go_wp2
      go_ret
      exact ⟨by rw [fnd_none L kind s (by have := HF.it; rw [HN.it, List.take_length] at this; exact this)]; rfl, hk⟩
    · obtain ⟨t, ht⟩ : ∃ t, L[j]? = some t := ⟨_, List.getElem?_eq_getElem (by rw [← HN.it]; exact hlt)⟩
      obtain ⟨g, o, rfl, a0, a1, a2⟩ := HA.it j t ht
      have ev : ∀ {p v}, w.cell? p = some v → wr.cell? p = some v := fun {p v} h => by rw [World.cell?_of_block (hk.it.block _ (World.block_lt_of_cell? w _ h) (fun x => x))]; exact h
      have c0 := ev a0
      have c1 := ev a1
      have l1 : (j : Int) < N := by omega
      have l2 : (0 : Int) ≤ j := by omega
      have HT := Aside.mk ht
      clear a0 a1 a2 ht ev
      by_cases h1 : t.k = kind
      · have e1 : (t.k == kind) = true := by simpa using h1
        by_cases h2 : (t.s : Int) = s
        · have e2 : ((t.s : Int) == s) = true := by simpa using h2
          have HI : Aside (isT kind s t = true) := ⟨isT_iff.2 ⟨h1, by omega⟩⟩
          clear h1 h2
          go_wp2
          go_ret
          exact ⟨by rw [fnd_take L kind s j t HT.it HF.it HI.it]; rfl, hk⟩
        · have e2 : ((t.s : Int) == s) = false := by simpa using h2
          have HI : Aside (isT kind s t = false) := ⟨by cases hc : isT kind s t with | false => rfl | true => exact absurd (by have := (isT_iff.1 hc).2; omega) h2⟩
          clear h1 h2
          go_wp2
          go_roundw
          case rel => exact ⟨j + 1, by go_num, by omega, ⟨take_false L _ j t HT.it HF.it HI.it⟩, hk⟩
          case measure => (simp only [intOf]; omega)
      · have e1 : (t.k == kind) = false := by simpa using h1
        have HI : Aside (isT kind s t = false) := ⟨by cases hc : isT kind s t with | false => rfl | true => exact absurd (isT_iff.1 hc).1 h1⟩
        clear h1
        go_wp2
        go_roundw
        case rel => exact ⟨j + 1, by go_num, by omega, ⟨take_false L _ j t HT.it HF.it HI.it⟩, hk⟩
        case measure => (simp only [intOf]; omega)
theorem cntK_take (kind : Int) (L : List Tk) (j : Nat) (t : Tk) (h : L[j]? = some t) : cntK kind (L.take (j + 1)) = cntK kind (L.take j) + if t.k = kind then 1 else 0 := by
  rw [List.take_add_one, h]
  unfold cntK
  rw [List.countP_append]
  by_cases hk : t.k = kind <;> simp [hk]
set_option maxHeartbeats 1000000 in
theorem countR (v : Value) (L : List Tk) (kind : Int) (hv : RdT w v L) : Calls Tryd.prog 15 #[v, .int .i64 kind] w fun e w' => e = .returned (.int .i64 (cntK kind L)) ∧ Aside (Keeps Nowhere w w') := by
  obtain ⟨qa, ca, rfl, hla, hma, ha⟩ := hv.at
  obtain ⟨N, hN⟩ : ∃ N, N = L.length := ⟨_, rfl⟩
  rw [← hN] at hla ⊢
  have HN := Aside.mk hN
  have HA := Aside.mk ha
  have hn1 : (N : Int) ≤ 9223372036854775807 := by unfold maxLen at hma; omega
  clear hN ha hma
  go_enter Tryd.func15, Tryd.ntmps15
  go_wp2_with fail
  go_loopw [5, 6] (fun nv i wr => ∃ j n : Nat, nv = .int .i64 n ∧ i = .int .i64 j ∧ j ≤ N ∧ Aside (n = cntK kind (L.take j) ∧ n ≤ j) ∧ Aside (Keeps Nowhere w wr)) (fun _ i _ => N - (intOf i).toNat)
  case atStart => exact ⟨0, 0, rfl, rfl, Nat.zero_le _, ⟨rfl, Nat.le_refl _⟩, ⟨Keeps.refl _ _⟩⟩
  case round =>
    obtain ⟨j, n, rfl, rfl, hj, HF, hk⟩ := hrel
    rcases Nat.eq_or_lt_of_le hj with rfl | hlt
    · go_wp2
      go_ret
      exact ⟨by have := HF.it.1; rw [HN.it, List.take_length] at this; rw [← this]; rfl, hk⟩
    · obtain ⟨t, ht⟩ : ∃ t, L[j]? = some t := ⟨_, List.getElem?_eq_getElem (by rw [← HN.it]; exact hlt)⟩
      obtain ⟨g, o, rfl, a0, a1, a2⟩ := HA.it j t ht
      have c0 : wr.cell? ⟨g, o + j * 3, none⟩ = some (.int .i64 t.k) := by rw [World.cell?_of_block (hk.it.block _ (World.block_lt_of_cell? w _ a0) (fun x => x))]; exact a0
      have l1 : (j : Int) < N := by omega
      have l2 : (0 : Int) ≤ j := by omega
      have HT := Aside.mk (cntK_take kind L j t ht)
      have hnj : (n : Int) ≤ j := by have := HF.it.2; omega
      clear a0 a1 a2 ht
      by_cases h1 : t.k = kind
      · have e1 : (t.k == kind) = true := by simpa using h1
        rw [if_pos h1] at HT
        clear h1
        go_wp2
        go_roundw
        case rel => exact ⟨j + 1, n + 1, by go_num, by go_num, by omega, ⟨by rw [HT.it, ← HF.it.1], by have := HF.it.2; omega⟩, hk⟩
        case measure => (simp only [intOf]; omega)
      · have e1 : (t.k == kind) = false := by simpa using h1
        rw [if_neg h1] at HT
        clear h1
        go_wp2
        go_roundw
        case rel => exact ⟨j + 1, n, rfl, by go_num, by omega, ⟨by rw [HT.it, ← HF.it.1]; rfl, by have := HF.it.2; omega⟩, hk⟩
        case measure => (simp only [intOf]; omega)
end Go.Proofs.YtialmmobkmdfpaaDoor
