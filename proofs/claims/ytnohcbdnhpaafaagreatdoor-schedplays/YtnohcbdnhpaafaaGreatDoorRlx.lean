import Derived.Test.YtnohcbdnhpaafaaGreatDoorLnF
import Derived.Test.YtnohcbdnhpaafaaGreatDoorLnC2
import Derived.Test.YtnohcbdnhpaafaaGreatDoorLnR
import Derived.Test.YtnohcbdnhpaafaaGreatDoorLnX
/-
  culvertref11: Find, Count, Forget, Without
-/
namespace Go.Proofs.YtnohcbdnhpaafaaGreatDoor
open Go.RowKit

variable {A : Nat → Addr} {w w' w0 : World} {L : List Tk}

def fndI (L : List Tk) (kind : Int) (s : Nat) : Int := match L.findIdx? (isT kind s) with | some i => i | none => -1
theorem fnd_take (L : List Tk) (kind : Int) (s : Nat) (j : Nat) (t : Tk) (h : L[j]? = some t) (hn : ∀ u ∈ L.take j, isT kind s u = false) (ht : isT kind s t = true) : fndI L kind s = j := by
  have : L.findIdx? (isT kind s) = some j := by
    rw [List.findIdx?_eq_some_iff_getElem]
    obtain ⟨hj, he⟩ := List.getElem?_eq_some_iff.1 h
    refine ⟨hj, by rw [he]; exact ht, fun i hi => ?_⟩
    have := hn (L[i]'(by omega)) (List.mem_take_iff_getElem.2 ⟨i, by omega, rfl⟩)
    simpa using this
  unfold fndI
  rw [this]
theorem fnd_none (L : List Tk) (kind : Int) (s : Nat) (hn : ∀ u ∈ L, isT kind s u = false) : fndI L kind s = -1 := by
  have : L.findIdx? (isT kind s) = none := by
    rw [List.findIdx?_eq_none_iff]
    exact hn
  unfold fndI
  rw [this]
theorem take_false (L : List Tk) (f : Tk → Bool) (j : Nat) (t : Tk) (h : L[j]? = some t) (hn : ∀ u ∈ L.take j, f u = false) (ht : f t = false) : ∀ u ∈ L.take (j + 1), f u = false := by
  rw [List.take_add_one, h]
  intro u hu
  rcases List.mem_append.1 hu with hu | hu
  · exact hn u hu
  · simp only [Option.toList_some, List.mem_singleton] at hu
    rw [hu]; exact ht

set_option maxHeartbeats 1000000 in
theorem findR (v : Value) (L : List Tk) (kind : Int) (s : Nat) (hv : RdT w v L) : Calls Tryz.prog 46 #[v, .int .i64 kind, .int .u32 s] w fun e w' => e = .returned (.int .i64 (fndI L kind s)) ∧ Aside (Keeps Nowhere w w') := by
  obtain ⟨qa, ca, rfl, hla, hma, ha⟩ := hv.at
  obtain ⟨N, hN⟩ : ∃ N, N = L.length := ⟨_, rfl⟩
  rw [← hN] at hla ⊢
  have HN := Aside.mk hN
  have HA := Aside.mk ha
  have hn1 : (N : Int) ≤ 9223372036854775807 := by unfold maxLen at hma; omega
  clear hN ha hma
  go_enter Tryz.func46, Tryz.ntmps46
  go_wp2_with fail
  go_loopw [7] (fun i wr => ∃ j : Nat, i = .int .i64 j ∧ j ≤ N ∧ Aside (∀ u ∈ L.take j, isT kind s u = false) ∧ Aside (Keeps Nowhere w wr)) (fun i _ => N - (intOf i).toNat)
  case atStart => exact ⟨0, rfl, Nat.zero_le _, ⟨fun u hu => by simp at hu⟩, ⟨Keeps.refl _ _⟩⟩
  case round =>
    obtain ⟨j, rfl, hj, HF, hk⟩ := hrel
    rcases Nat.eq_or_lt_of_le hj with rfl | hlt
    · go_wp2
      go_ret
      exact ⟨by rw [fnd_none L kind s (by have := HF.it; rw [HN.it, List.take_length] at this; exact this)]; rfl, hk⟩
    · obtain ⟨t, ht⟩ : ∃ t, L[j]? = some t := ⟨_, List.getElem?_eq_getElem (by rw [← HN.it]; exact hlt)⟩
      obtain ⟨g, o, rfl, a0, a1, a2⟩ := HA.it j t ht
      have ev : ∀ {p v}, w.cell? p = some v → wr.cell? p = some v := fun {p v} h => by rw [World.cell?_of_block (hk.it.block _ (World.block_lt_of_cell? w _ h) (fun x => x))]; exact h
      have c0 := ev a0
      have c1 := ev a1
      have l1 : (j : Int) < N := by omega
      have l2 : (0 : Int) ≤ j := by omega
      have HT := Aside.mk ht
      clear a0 a1 a2 ht ev
      by_cases h1 : t.k = kind
      · have e1 : (t.k == kind) = true := by simpa using h1
        by_cases h2 : (t.s : Int) = s
        · have e2 : ((t.s : Int) == s) = true := by simpa using h2
          have HI : Aside (isT kind s t = true) := ⟨isT_iff.2 ⟨h1, by omega⟩⟩
          clear h1 h2
          go_wp2
          go_ret
          exact ⟨by rw [fnd_take L kind s j t HT.it HF.it HI.it]; rfl, hk⟩
        · have e2 : ((t.s : Int) == s) = false := by simpa using h2
          have HI : Aside (isT kind s t = false) := ⟨by cases hc : isT kind s t with | false => rfl | true => exact absurd (by have := (isT_iff.1 hc).2; omega) h2⟩
          clear h1 h2
          go_wp2
          go_roundw
          case rel => exact ⟨j + 1, by go_num, by omega, ⟨take_false L _ j t HT.it HF.it HI.it⟩, hk⟩
          case measure => (simp only [intOf]; omega)
      · have e1 : (t.k == kind) = false := by simpa using h1
        have HI : Aside (isT kind s t = false) := ⟨by cases hc : isT kind s t with | false => rfl | true => exact absurd (isT_iff.1 hc).1 h1⟩
        clear h1
        go_wp2
        go_roundw
        case rel => exact ⟨j + 1, by go_num, by omega, ⟨take_false L _ j t HT.it HF.it HI.it⟩, hk⟩
        case measure => (simp only [intOf]; omega)
theorem cntK_take (kind : Int) (L : List Tk) (j : Nat) (t : Tk) (h : L[j]? = some t) : cntK kind (L.take (j + 1)) = cntK kind (L.take j) + if t.k = kind then 1 else 0 := by
  rw [List.take_add_one, h]
  unfold cntK
  rw [List.countP_append]
  by_cases hk : t.k = kind <;> simp [hk]
set_option maxHeartbeats 1000000 in
theorem countR (v : Value) (L : List Tk) (kind : Int) (hv : RdT w v L) : Calls Tryz.prog 30 #[v, .int .i64 kind] w fun e w' => e = .returned (.int .i64 (cntK kind L)) ∧ Aside (Keeps Nowhere w w') := by
  obtain ⟨qa, ca, rfl, hla, hma, ha⟩ := hv.at
  obtain ⟨N, hN⟩ : ∃ N, N = L.length := ⟨_, rfl⟩
  rw [← hN] at hla ⊢
  have HN := Aside.mk hN
  have HA := Aside.mk ha
  have hn1 : (N : Int) ≤ 9223372036854775807 := by unfold maxLen at hma; omega
  clear hN ha hma
  go_enter Tryz.func30, Tryz.ntmps30
  go_wp2_with fail
  go_loopw [5, 6] (fun nv i wr => ∃ j n : Nat, nv = .int .i64 n ∧ i = .int .i64 j ∧ j ≤ N ∧ Aside (n = cntK kind (L.take j) ∧ n ≤ j) ∧ Aside (Keeps Nowhere w wr)) (fun _ i _ => N - (intOf i).toNat)
  case atStart => exact ⟨0, 0, rfl, rfl, Nat.zero_le _, ⟨rfl, Nat.le_refl _⟩, ⟨Keeps.refl _ _⟩⟩
  case round =>
    obtain ⟨j, n, rfl, rfl, hj, HF, hk⟩ := hrel
    rcases Nat.eq_or_lt_of_le hj with rfl | hlt
    · go_wp2
      go_ret
      exact ⟨by have := HF.it.1; rw [HN.it, List.take_length] at this; rw [← this]; rfl, hk⟩
    · obtain ⟨t, ht⟩ : ∃ t, L[j]? = some t := ⟨_, List.getElem?_eq_getElem (by rw [← HN.it]; exact hlt)⟩
      obtain ⟨g, o, rfl, a0, a1, a2⟩ := HA.it j t ht
      have c0 : wr.cell? ⟨g, o + j * 3, none⟩ = some (.int .i64 t.k) := by rw [World.cell?_of_block (hk.it.block _ (World.block_lt_of_cell? w _ a0) (fun x => x))]; exact a0
      have l1 : (j : Int) < N := by omega
      have l2 : (0 : Int) ≤ j := by omega
      have HT := Aside.mk (cntK_take kind L j t ht)
      have hnj : (n : Int) ≤ j := by have := HF.it.2; omega
      clear a0 a1 a2 ht
      by_cases h1 : t.k = kind
      · have e1 : (t.k == kind) = true := by simpa using h1
        rw [if_pos h1] at HT
        clear h1
        go_wp2
        go_roundw
        case rel => exact ⟨j + 1, n + 1, by go_num, by go_num, by omega, ⟨by rw [HT.it, ← HF.it.1], by have := HF.it.2; omega⟩, hk⟩
        case measure => (simp only [intOf]; omega)
      · have e1 : (t.k == kind) = false := by simpa using h1
        rw [if_neg h1] at HT
        clear h1
        go_wp2
        go_roundw
        case rel => exact ⟨j + 1, n, rfl, by go_num, by omega, ⟨by rw [HT.it, ← HF.it.1]; rfl, by have := HF.it.2; omega⟩, hk⟩
        case measure => (simp only [intOf]; omega)
end Go.Proofs.YtnohcbdnhpaafaaGreatDoor

/-
  culvertref11: Forget, Without
-/
namespace Go.Proofs.YtnohcbdnhpaafaaGreatDoor
open Go.RowKit

variable {A : Nat → Addr} {w w' w0 : World} {L : List Tk}
abbrev zT : Value := .agg #[.int .i64 0, .int .u32 0, .int .u32 0]
theorem lit0 (w : World) (base : Nat) (h : base ≤ w.heap.size) : (w.alloc (.cells #[] 35)).ownsRow base 35 3 (.slice (some ⟨w.heap.size, 0, none⟩) 0 0) 0 [] := World.ownsRow_lit w #[] 0 h (Nat.zero_le _) rfl
theorem tcells_one (t : Tk) : ∀ u ∈ tcells t, u.oneCell' = true := by simp [tcells, Value.oneCell']
theorem flatT_one (L : List Tk) : ∀ u ∈ flatT L, u.oneCell' = true := by
  intro u hu
  simp only [flatT, List.mem_flatMap] at hu
  obtain ⟨t, _, h⟩ := hu
  exact tcells_one t u h
theorem filter_take (L : List Tk) (f : Tk → Bool) (j : Nat) (t : Tk) (h : L[j]? = some t) : (L.take (j + 1)).filter f = (L.take j).filter f ++ if f t then [t] else [] := by
  rw [List.take_add_one, h, List.filter_append]
  cases hf : f t <;> simp [hf]
theorem filter_count (L : List Tk) (s : Nat) : L.length - (L.filter (fun t => !decide (t.s = s))).length = L.countP (fun t => decide (t.s = s)) ∧ (L.filter (fun t => !decide (t.s = s))).length ≤ L.length := by
  have h := List.length_eq_countP_add_countP (l := L) (fun t => decide (t.s = s))
  have e : (L.filter (fun t => !decide (t.s = s))).length = L.countP (fun t => !decide (t.s = s)) := (List.countP_eq_length_filter).symm
  have e2 : L.countP (fun t => decide ¬ decide (t.s = s) = true) = L.countP (fun t => !decide (t.s = s)) := List.countP_congr fun t _ => by simp
  rw [e2] at h
  omega
set_option maxHeartbeats 2000000 in
theorem forgetR (v : Value) (L : List Tk) (s : Nat) (hv : RdT w v L) (hb : L.length * 16 ≤ 140737488355328) : Calls Tryz.prog 51 #[v, .int .u32 s] w fun e w' => ∃ v', e = .returned (.tuple #[v', .int .i64 (L.countP (fun t => decide (t.s = s)))]) ∧ Aside (w'.ownsRow w.heap.size 35 3 v' (L.filter (fun t => !decide (t.s = s))).length (flatT (L.filter (fun t => !decide (t.s = s))))) ∧ Aside (Keeps Nowhere w w') := by
  obtain ⟨qa, ca, rfl, hla, hma, ha⟩ := hv.at
  obtain ⟨N, hN⟩ : ∃ N, N = L.length := ⟨_, rfl⟩
  rw [← hN] at hla hb ⊢
  have HN := Aside.mk hN
  have HA := Aside.mk ha
  have hn1 : (N : Int) ≤ 8796093022208 := by omega
  clear hN ha hma
  go_enter Tryz.func51, Tryz.ntmps51
  go_upto_region 2 with fail
  have O0 := Aside.mk (lit0 w w.heap.size (Nat.le_refl _))
  have K0 : Aside (Keeps Nowhere w (w.alloc (.cells #[] 35))) := ⟨(Keeps.refl _ _).alloc _⟩
  generalize w.alloc (.cells #[] 35) = W0 at O0 K0 ⊢
  generalize hws : w.heap.size = ws at O0 ⊢
  have HWS := Aside.mk hws
  clear hws
  go_wp2_with fail
  go_loopw [6, 7] (fun lv i wr => ∃ (j : Nat) (la : Option Addr) (ln lc : Nat), lv = .slice la ln lc ∧ i = .int .i64 j ∧ j ≤ N ∧ Aside (wr.ownsRow ws 35 3 (.slice la ln lc) ((L.take j).filter (fun t => !decide (t.s = s))).length (flatT ((L.take j).filter (fun t => !decide (t.s = s))))) ∧ Aside (Keeps Nowhere w wr)) (fun _ i _ => N - (intOf i).toNat)
  case atStart => exact ⟨0, _, _, _, rfl, rfl, Nat.zero_le _, O0, K0⟩
  case round =>
    clear O0 K0
    obtain ⟨j, la, ln, lc, rfl, rfl, hj, HO, hk⟩ := hrel
    rcases Nat.eq_or_lt_of_le hj with rfl | hlt
    · have HO' := HO.it
      rw [show L.take j = L by rw [HN.it, List.take_length]] at HO'
      obtain ⟨_, _, ev, _⟩ := (owns_readsK HO').2
      injection ev with _ ev _
      obtain ⟨fc, fl⟩ := filter_count L s
      have FC := Aside.mk fc
      rw [← HN.it] at fl
      rw [ev]
      have HO2 := Aside.mk HO'
      rw [ev] at HO2
      clear HO HO' ev fc
      obtain ⟨fl', hfl'⟩ : ∃ x, Aside (x = (L.filter (fun t => !decide (t.s = s))).length) := ⟨_, ⟨rfl⟩⟩
      rw [← hfl'.it] at fl HO2 FC ⊢
      have hfl : (fl' : Int) ≤ j := by omega
      go_wp2
      go_ret2
      refine ⟨_, ?_, by rw [HWS.it, ← hfl'.it]; exact HO2, hk⟩
      have h1 := FC.it
      have h2 := HN.it
      rw [show ((j : Int) - fl') = (L.countP (fun t => decide (t.s = s)) : Nat) by omega]
      rfl
    · obtain ⟨t, ht⟩ : ∃ t, L[j]? = some t := ⟨_, List.getElem?_eq_getElem (by rw [← HN.it]; exact hlt)⟩
      obtain ⟨g, o, rfl, a0, a1, a2⟩ := HA.it j t ht
      have ev : ∀ {p v}, w.cell? p = some v → wr.cell? p = some v := fun {p v} h => by rw [World.cell?_of_block (hk.it.block _ (World.block_lt_of_cell? w _ h) (fun x => x))]; exact h
      have c0 := ev a0
      have c1 := ev a1
      have c2 := ev a2
      have l1 : (j : Int) < N := by omega
      have l2 : (0 : Int) ≤ j := by omega
      have FT := Aside.mk (filter_take L (fun t => !decide (t.s = s)) j t ht)
      have hrl : Aside (((L.take j).filter (fun t => !decide (t.s = s))).length ≤ j) := ⟨Nat.le_trans (List.length_filter_le _ _) (by rw [List.length_take]; omega)⟩
      clear a0 a1 a2 ht ev
      by_cases h1 : (t.s : Int) = s
      · have e1 : ((t.s : Int) != s) = false := by simpa using h1
        have FF : Aside ((L.take (j + 1)).filter (fun t => !decide (t.s = s)) = (L.take j).filter (fun t => !decide (t.s = s))) := ⟨by rw [FT.it, if_neg (by simp; omega), List.append_nil]⟩
        clear h1
        go_wp2
        go_roundw
        case rel => exact ⟨j + 1, la, ln, lc, rfl, by go_num, by omega, by rw [FF.it]; exact HO, hk⟩
        case measure => (simp only [intOf]; omega)
      · have e1 : ((t.s : Int) != s) = true := by simpa using h1
        have FF : Aside ((L.take (j + 1)).filter (fun t => !decide (t.s = s)) = (L.take j).filter (fun t => !decide (t.s = s)) ++ [t]) := ⟨by rw [FT.it, if_pos (by simp; omega)]⟩
        clear h1
        have hws : ws ≤ wr.heap.size := by rw [← HWS.it]; exact hk.it.size
        go_wp2_with (at_builtin; refine wpList_appendR rfl (.tmp 22) (.tmp 27) 26 rfl 35 zT 3 16 Tryz.underlying26 infoT rfl (by decide) wr ((Keeps.refl _ _).alloc _) ws _ _ _ HO.it _ 1 (tcells t) (readsK_new _ _ (tcells t)) (tcells_one t) (by have h2 := hrl.it; omega) (by unfold maxLen; have h2 := hrl.it; omega) hws rfl rfl ?_; intro v' w' o' k' b'; obtain ⟨g0, g1, g2, hv'⟩ := owns_shapeK o'.it; subst hv')
        go_roundw
        case rel =>
          refine ⟨j + 1, g0, g1, g2, rfl, by go_num, by omega, ⟨?_⟩, ⟨?_⟩⟩
          · rw [FF.it, flatT_snoc, List.length_append]
            exact o'.it
          · exact (hk.it.alloc _).next k'.it (fun b hb hlt' => by have := owns_base HO.it b hb; have := HWS.it; omega)
        case measure => (simp only [intOf]; omega)

theorem RdT.take {a : Option Addr} {c k : Nat} (h : RdT w (.slice a L.length c) L) (hk : k ≤ L.length) : RdT w (.slice a k c) (L.take k) := by
  obtain ⟨hl, a', c', he, h1, h2, h3, hc⟩ := h
  injection he with e1 _ e3
  subst e1 e3
  have hlen : (L.take k).length = k := by rw [List.length_take]; omega
  refine ⟨by rw [flatT_len], a, c, by rw [hlen], by rw [hlen]; omega, h2, h3, fun j u hj => ?_⟩
  have hjl : j < (flatT (L.take k)).length := (List.getElem?_eq_some_iff.1 hj).1
  rw [flatT_len, hlen] at hjl
  obtain ⟨t, ht⟩ : ∃ t, L[j / 3]? = some t := ⟨_, List.getElem?_eq_getElem (by omega)⟩
  have e1 : (flatT (L.take k))[j / 3 * 3 + j % 3]? = (tcells t)[j % 3]? := flatT_at _ _ _ (by rw [List.getElem?_take, if_pos (by omega)]; exact ht) _ (Nat.mod_lt _ (by decide))
  have e2 : (flatT L)[j / 3 * 3 + j % 3]? = (tcells t)[j % 3]? := flatT_at _ _ _ ht _ (Nat.mod_lt _ (by decide))
  rw [Nat.div_add_mod'] at e1 e2
  exact hc j u (by rw [e2, ← e1]; exact hj)
theorem RdT.drop {g o c k : Nat} (h : RdT w (.slice (some ⟨g, o, none⟩) L.length c) L) (hk : k ≤ L.length) : RdT w (.slice (some ((⟨g, o, none⟩ : Addr).add (k * 3))) (L.length - k) (c - k)) (L.drop k) := by
  obtain ⟨hl, a', c', he, h1, h2, h3, hc⟩ := h
  injection he with e1 _ e3
  subst e1 e3
  have hlen : (L.drop k).length = L.length - k := List.length_drop
  refine ⟨by rw [flatT_len], _, c - k, by rw [hlen], by rw [hlen]; omega, by omega, fun e => (by cases e), fun j u hj => ⟨g, o + k * 3, by rw [add_none], ?_⟩⟩
  have hjl : j < (flatT (L.drop k)).length := (List.getElem?_eq_some_iff.1 hj).1
  rw [flatT_len, hlen] at hjl
  obtain ⟨t, ht⟩ : ∃ t, (L.drop k)[j / 3]? = some t := ⟨_, List.getElem?_eq_getElem (by omega)⟩
  have e1 : (flatT (L.drop k))[j / 3 * 3 + j % 3]? = (tcells t)[j % 3]? := flatT_at _ _ _ ht _ (Nat.mod_lt _ (by decide))
  have e2 : (flatT L)[(k + j / 3) * 3 + j % 3]? = (tcells t)[j % 3]? := flatT_at _ _ _ (by rw [List.getElem?_drop] at ht; exact ht) _ (Nat.mod_lt _ (by decide))
  rw [Nat.div_add_mod'] at e1
  obtain ⟨g', o', ha, h4⟩ := hc (k * 3 + j) u (by
    rw [show k * 3 + j = (k + j / 3) * 3 + j % 3 by omega, e2, ← e1]
    exact hj)
  injection ha with ha
  injection ha with e1 e2
  subst e1 e2
  rw [Nat.add_assoc]
  exact h4
theorem rdT_none {q : Option Addr} {c : Nat} (hc : c ≤ maxLen) (hq : q = none → c = 0) : RdT w (.slice q 0 c) [] := ⟨rfl, q, c, rfl, Nat.zero_le _, hc, hq, fun j u hj => by simp [flatT] at hj⟩
set_option maxHeartbeats 2000000 in
theorem withoutR (v : Value) (L : List Tk) (k : Nat) (hv : RdT w v L) (hk : k < L.length) (hb : L.length * 16 ≤ 140737488355328) : Calls Tryz.prog 47 #[v, .int .i64 k] w fun e w' => ∃ v', e = .returned v' ∧ Aside (w'.ownsRow w.heap.size 35 3 v' (L.length - 1) (flatT (L.take k ++ L.drop (k + 1)))) ∧ Aside (Keeps Nowhere w w') := by
  have hv' := hv
  obtain ⟨qa, ca, rfl, hla, hma, ha⟩ := hv.at
  obtain ⟨t, ht⟩ : ∃ t, L[k]? = some t := ⟨_, List.getElem?_eq_getElem hk⟩
  obtain ⟨g, o, rfl, _⟩ := ha k t ht
  have R1 := Aside.mk (hv'.take (k := k) (by omega))
  have R2 := Aside.mk (hv'.drop (k := k + 1) (by omega))
  obtain ⟨N, hN⟩ : ∃ N, N = L.length := ⟨_, rfl⟩
  rw [← hN] at hla hb hk R2 ⊢
  have HN := Aside.mk hN
  have hn1 : (N : Int) ≤ 8796093022208 := by omega
  have n1 : (k : Int) < N := by omega
  have n2 : (0 : Int) ≤ k := by omega
  have n3 : (N : Int) ≤ ca := by omega
  have O0 := Aside.mk (lit0 w w.heap.size (Nat.le_refl _))
  have K0 : Keeps Nowhere w (w.alloc (.cells #[] 35)) := (Keeps.refl _ _).alloc _
  have R1' := Aside.mk (R1.it.quiet K0)
  have HL : Aside ((L.take k).length = k) := ⟨by rw [List.length_take]; omega⟩
  have K0' := Aside.mk K0
  clear hv hv' ha ht hN hma K0
  unfold RdT at R1' R2
  rw [HL.it] at R1'
  have HD : Aside ((L.drop (k + 1)).length = N - (k + 1)) := ⟨by rw [List.length_drop, HN.it]⟩
  have KW : Aside (∀ w1, Keeps (fun b => (Value.slice (some ⟨w.heap.size, 0, none⟩) 0 0).ownBlock = some b) (w.alloc (.cells #[] 35)) w1 → Keeps Nowhere w w1) := ⟨fun w1 h => K0'.it.next h (fun b hb hlt => by
    have : w.heap.size = b := by simpa [Value.ownBlock] using hb
    omega)⟩
  by_cases hc : ca = k + 1
  · have RX2 : Aside (∀ w1, Keeps Nowhere w w1 → ReadsK 3 w1 (.slice (some ⟨g, o, none⟩) 0 0) (L.drop (k + 1)).length (flatT (L.drop (k + 1)))) := ⟨fun w1 _ => by
      have e : L.drop (k + 1) = [] := List.eq_nil_of_length_eq_zero (by have := HD.it; omega)
      rw [e]
      exact rdT_none (Nat.zero_le _) (fun h => by cases h)⟩
    have hN1 : N = k + 1 := by omega
    subst hc
    subst hN1
    clear R2
    go_enter Tryz.func47, Tryz.ntmps47
    go_wp2_with (first
      | (at_builtin; refine wpList_appendR rfl (.tmp 11) (.tmp 15) 26 rfl 35 zT 3 16 Tryz.underlying26 infoT rfl (by decide) w1 (Keeps.refl _ _) w.heap.size _ _ _ o1.it _ (L.drop (k + 1)).length _ (RX2.it w1 (KW.it w1 k1.it)) (flatT_one _) (by have := HD.it; omega) (by unfold maxLen; have := HD.it; omega) (KW.it w1 k1.it).size rfl rfl ?_; intro v2 w2 o2 k2 b2; obtain ⟨h0, h1, h2, hv2⟩ := owns_shapeK o2.it; subst hv2)
      | (at_builtin; refine wpList_appendR rfl (.tmp 6) (.tmp 9) 26 rfl 35 zT 3 16 Tryz.underlying26 infoT rfl (by decide) _ (Keeps.refl _ _) w.heap.size _ _ _ O0.it _ k _ R1'.it (flatT_one _) (by omega) (by unfold maxLen; omega) K0'.it.size rfl rfl ?_; intro v1 w1 o1 k1 b1; obtain ⟨g0, g1, g2, hv1⟩ := owns_shapeK o1.it; subst hv1)
      | fail)
    go_ret
    refine ⟨_, rfl, ⟨?_⟩, ⟨(KW.it w1 k1.it).next k2.it (fun b hb hlt => by have := owns_base o1.it b hb; omega)⟩⟩
    have hh := o2.it
    rw [List.nil_append] at hh
    have e1 : flatT (L.take k ++ L.drop (k + 1)) = flatT (L.take k) ++ flatT (L.drop (k + 1)) := by simp [flatT]
    rw [e1]
    have e2 : k + 1 - 1 = 0 + k + (L.drop (k + 1)).length := by have := HD.it; omega
    rw [e2]
    exact hh
  · have hc' : ¬ (ca : Int) = k + 1 := by omega
    rw [add_none] at R2
    have RX2 : Aside (∀ w1, Keeps Nowhere w w1 → ReadsK 3 w1 (.slice (some ⟨g, o + (k + 1) * 3, none⟩) (N - (k + 1)) (ca - (k + 1))) (L.drop (k + 1)).length (flatT (L.drop (k + 1)))) := ⟨fun w1 h => ReadsK.later R2.it h (fun _ _ x => x)⟩
    clear R2
    go_enter Tryz.func47, Tryz.ntmps47
    go_wp2_with (first
      | (at_builtin; refine wpList_appendR rfl (.tmp 11) (.tmp 15) 26 rfl 35 zT 3 16 Tryz.underlying26 infoT rfl (by decide) w1 (Keeps.refl _ _) w.heap.size _ _ _ o1.it _ (L.drop (k + 1)).length _ (RX2.it w1 (KW.it w1 k1.it)) (flatT_one _) (by have := HD.it; omega) (by unfold maxLen; have := HD.it; omega) (KW.it w1 k1.it).size rfl rfl ?_; intro v2 w2 o2 k2 b2; obtain ⟨h0, h1, h2, hv2⟩ := owns_shapeK o2.it; subst hv2)
      | (at_builtin; refine wpList_appendR rfl (.tmp 6) (.tmp 9) 26 rfl 35 zT 3 16 Tryz.underlying26 infoT rfl (by decide) _ (Keeps.refl _ _) w.heap.size _ _ _ O0.it _ k _ R1'.it (flatT_one _) (by omega) (by unfold maxLen; omega) K0'.it.size rfl rfl ?_; intro v1 w1 o1 k1 b1; obtain ⟨g0, g1, g2, hv1⟩ := owns_shapeK o1.it; subst hv1)
      | fail)
    go_ret
    refine ⟨_, rfl, ⟨?_⟩, ⟨(KW.it w1 k1.it).next k2.it (fun b hb hlt => by have := owns_base o1.it b hb; omega)⟩⟩
    have hh := o2.it
    rw [List.nil_append] at hh
    have e1 : flatT (L.take k ++ L.drop (k + 1)) = flatT (L.take k) ++ flatT (L.drop (k + 1)) := by simp [flatT]
    rw [e1]
    have e2 : N - 1 = 0 + k + (L.drop (k + 1)).length := by have := HD.it; omega
    rw [e2]
    exact hh
end Go.Proofs.YtnohcbdnhpaafaaGreatDoor

/-
  culvertref11: Put
-/
namespace Go.Proofs.YtnohcbdnhpaafaaGreatDoor
open Go.RowKit

variable {A : Nat → Addr} {w w' w0 : World} {L : List Tk}

/-- the document's Put by the place that Find tells -/
theorem putL_find (L : List Tk) (t : Tk) (hm : mayT t = 0) (hu : L.Pairwise (fun x y => x.k = y.k → x.s = y.s → ¬ Single x.k)) :
    (fndI L t.k t.s < 0 ∧ putL L t = (L ++ [t], 0)) ∨ (¬ Single t.k ∧ putL L t = (L ++ [t], 0)) ∨
    ∃ i u, fndI L t.k t.s = (i : Nat) ∧ L[i]? = some u ∧ Single t.k ∧ ((t.k ≠ 3 ∧ putL L t = (L, 8)) ∨ (t.k = 3 ∧ 4294967295 < u.v + t.v ∧ putL L t = (L, 4)) ∨ (t.k = 3 ∧ ¬ 4294967295 < u.v + t.v ∧ putL L t = (L.set i { u with v := u.v + t.v }, 0))) := by
  by_cases hs : Single t.k
  · cases hf : L.findIdx? (isT t.k t.s) with
    | none =>
      left
      have h1 : fndI L t.k t.s = -1 := by unfold fndI; rw [hf]
      rw [List.findIdx?_eq_none_iff] at hf
      have h2 : L.find? (isT t.k t.s) = none := by
        rw [List.find?_eq_none]
        intro x hx
        rw [hf x hx]
        simp
      refine ⟨by omega, ?_⟩
      unfold putL
      rw [if_neg (by simp [hm]), if_neg (by simp [hs]), h2]
    | some i =>
      right; right
      have h1 : fndI L t.k t.s = (i : Nat) := by unfold fndI; rw [hf]
      rw [List.findIdx?_eq_some_iff_getElem] at hf
      obtain ⟨hi, hp, hn⟩ := hf
      have hLi : L[i]? = some L[i] := List.getElem?_eq_getElem hi
      have h2 : L.find? (isT t.k t.s) = some L[i] := by
        rw [List.find?_eq_some_iff_getElem]
        exact ⟨hp, i, hi, rfl, fun j hj => by simpa using hn j hj⟩
      obtain ⟨a, b⟩ := isT_iff.1 hp
      refine ⟨i, L[i], h1, hLi, hs, ?_⟩
      unfold putL
      rw [if_neg (by simp [hm]), if_neg (by simp [hs]), h2]
      simp only
      by_cases h3 : t.k = 3
      · rw [if_neg (by simp [h3])]
        by_cases ho : 4294967295 < L[i].v + t.v
        · exact .inr (.inl ⟨h3, ho, by rw [if_pos ho]⟩)
        · refine .inr (.inr ⟨h3, ho, ?_⟩)
          rw [if_neg ho]
          congr 1
          refine List.ext_getElem? fun j => ?_
          rw [List.getElem?_map, List.getElem?_set]
          by_cases hj : i = j
          · subst hj
            rw [if_pos rfl, if_pos hi, hLi]
            simp only [Option.map_some, hp, if_true]
          · rw [if_neg hj]
            cases hLj : L[j]? with
            | none => rfl
            | some x =>
              simp only [Option.map_some, Option.some.injEq]
              rw [if_neg]
              intro hx
              obtain ⟨c, d⟩ := isT_iff.1 hx
              obtain ⟨hjl, hje⟩ := List.getElem?_eq_some_iff.1 hLj
              rcases Nat.lt_or_gt_of_ne hj with hlt | hgt
              · have := List.pairwise_iff_getElem.1 hu i j hi hjl hlt (by rw [a, hje, c]) (by rw [b, hje, d])
                rw [a] at this
                exact this hs
              · have := List.pairwise_iff_getElem.1 hu j i hjl hi hgt (by rw [a, hje, c]) (by rw [b, hje, d])
                rw [hje, c] at this
                exact this hs
      · exact .inl ⟨h3, by rw [if_pos (by simp [h3])]⟩
  · right; left
    refine ⟨hs, ?_⟩
    unfold putL
    rw [if_neg (by simp [hm]), if_pos hs]
theorem flatT_set (L : List Tk) (i : Nat) (u : Tk) (n : Nat) (h : L[i]? = some u) : flatT (L.set i { u with v := n }) = (flatT L).set (i * 3 + 2) (.int .u32 (n : Nat)) := by
  induction L generalizing i with
  | nil => simp at h
  | cons x L ih =>
    cases i with
    | zero =>
      simp only [List.getElem?_cons_zero, Option.some.injEq] at h
      subst h
      simp [flatT]
    | succ i =>
      rw [List.getElem?_cons_succ] at h
      have := ih i h
      rw [List.set_cons_succ]
      simp only [flatT, List.flatMap_cons] at this ⊢
      rw [this, List.set_append_right _ _ (by simp; omega)]
      congr 1
      simp
      congr 1
      omega
theorem owns_some {base n : Nat} {v : Value} {xs : List Value} (h : w.ownsRow base 35 3 v n xs) (hn : 0 < n) : ∃ g c, v = .slice (some ⟨g, 0, none⟩) n c := by
  rcases h.2 with ⟨_, h0⟩ | ⟨g, cap, cur, he, _⟩
  · omega
  · exact ⟨g, cap, he⟩
set_option maxHeartbeats 4000000 in
theorem putR (v : Value) (L : List Tk) (t : Tk) (hv : RdT w v L) (ht : t.Wide) (hu : L.Pairwise (fun x y => x.k = y.k → x.s = y.s → ¬ Single x.k)) (hw : ∀ x ∈ L, x.Wide) (hb : L.length * 16 + 16 ≤ 140737488355328) :
    Calls Tryz.prog 43 #[v, tkv t.k t.s t.v] w fun e w' => ∃ v', e = .returned (.tuple #[v', .int .i64 ((putL L t).2 : Nat)]) ∧ Aside ((v' = v ∧ (putL L t).1 = L) ∨ w'.ownsRow w.heap.size 35 3 v' (putL L t).1.length (flatT (putL L t).1)) ∧ Aside (Keeps Nowhere w w') := by
  have HV := Aside.mk hv
  obtain ⟨qa, ca, rfl, hla, hma, ha⟩ := hv.at
  have HA := Aside.mk ha
  obtain ⟨W0, hW0⟩ : ∃ W0, W0 = w.alloc (tbox t.k t.s t.v) := ⟨_, rfl⟩
  have K0 : Aside (Keeps Nowhere w W0) := ⟨by rw [hW0]; exact (Keeps.refl _ _).alloc _⟩
  have C0 : Aside (Cells W0 w.heap.size 35 (tcells t)) := ⟨by rw [hW0]; exact tbox_new _ _ _ _⟩
  obtain ⟨b0, b1, b2⟩ := TB.of C0.it
  have MY := Aside.mk (mayR (w := W0) t)
  have FD := Aside.mk (fun W (k : Keeps Nowhere w W) => findR (w := W) _ L t.k t.s (HV.it.quiet k))
  have HU := Aside.mk hu
  have HW := Aside.mk hw
  have htv := ht.v1
  clear ha hv hu hw hma ht
  go_enter Tryz.func43, Tryz.ntmps43
  go_upto_region 1 with fail
  rw [← hW0]
  clear hW0
  go_upto_region 2 with (first | (go_at_call 71; refine MY.it.mono ?_; rintro e w1 ⟨rfl, k1⟩) | fail)
  have K1 := Aside.mk (K0.it.trans k1)
  have C1 := Aside.mk (C0.it.later k1 (fun x => x))
  clear b0 b1 b2 k1
  obtain ⟨b0, b1, b2⟩ := TB.of C1.it
  by_cases hm : mayT t = 0
  · rw [hm]
    have z0 : (((0 : Nat) : Int) != 0) = false := rfl
    have F1 := Aside.mk (FD.it w1 K1.it)
    go_upto_region 6 with (first | (go_at_call 46; refine F1.it.mono ?_; rintro e w2 ⟨rfl, k2⟩) | fail)
    have K2 := Aside.mk (K1.it.trans k2.it)
    have C2 := Aside.mk (C1.it.later k2.it (fun x => x))
    clear b0 b1 b2 k2 F1 FD MY z0
    obtain ⟨b0, b1, b2⟩ := TB.of C2.it
    have K3 : Aside (Keeps Nowhere w2 (w2.alloc (.cells #[] 35))) := ⟨(Keeps.refl _ _).alloc _⟩
    have R3 : Aside (ReadsK 3 (w2.alloc (.cells #[] 35)) (.slice qa L.length ca) L.length (flatT L)) := ⟨HV.it.quiet (K2.it.trans K3.it)⟩
    have KW : Aside (∀ w1, Keeps (fun b => (Value.slice (some ⟨w2.heap.size, 0, none⟩) 0 0).ownBlock = some b) (w2.alloc (.cells #[] 35)) w1 → Keeps Nowhere w2 w1) := ⟨fun w1 h => K3.it.next h (fun b hb hlt => by
      have : w2.heap.size = b := by simpa [Value.ownBlock] using hb
      omega)⟩
    have PF := putL_find L t hm HU.it
    have e5 : Aside (¬ Single t.k ↔ (t.k = 5 ∨ t.k = 6)) := ⟨by unfold Single; omega⟩
    rcases PF with ⟨h1, hp⟩ | ⟨h1, hp⟩ | ⟨i, u, hf, hLi, hs, hp⟩
    · have HP := Aside.mk hp
      clear hp
      go_wp2_with (first
        | (at_builtin; refine wpList_appendR rfl (.tmp 38) (.tmp 40) 26 rfl 35 zT 3 16 Tryz.underlying26 infoT rfl (by decide) w4 ((Keeps.refl _ _).alloc _) w2.heap.size _ _ _ o4.it _ 1 (tcells t) (readsK_new _ _ (tcells t)) (tcells_one t) (by omega) (by unfold maxLen; omega) (KW.it w4 k4.it).size rfl rfl ?_; intro v5 w5 o5 k5 b5; obtain ⟨h0, h1, h2, hv5⟩ := owns_shapeK o5.it; subst hv5)
        | (at_builtin; refine wpList_appendR rfl (.tmp 35) (.tmp 36) 26 rfl 35 zT 3 16 Tryz.underlying26 infoT rfl (by decide) _ (Keeps.refl _ _) w2.heap.size _ _ _ (lit0 w2 w2.heap.size (Nat.le_refl _)) _ L.length _ R3.it (flatT_one _) (by omega) (by unfold maxLen; omega) K3.it.size rfl rfl ?_; intro v4 w4 o4 k4 b4; obtain ⟨g0, g1, g2, hv4⟩ := owns_shapeK o4.it; subst hv4; obtain ⟨y0, y1, y2⟩ := TB.of (C2.it.later (KW.it w4 k4.it) (fun x => x)))
        | fail)
      all_goals (try (exfalso; omega))
      go_ret2
      refine ⟨_, by rw [HP.it]; rfl, ⟨.inr ?_⟩, ⟨(K2.it.trans ((KW.it w4 k4.it).alloc _)).next k5.it (fun b hb hlt => by have := owns_base o4.it b hb; have := K2.it.size; omega)⟩⟩
      rw [HP.it]
      have hh := owns_mono o5.it K2.it.size
      rw [flatT_snoc, List.length_append]
      rw [List.nil_append, Nat.zero_add] at hh
      exact hh
    · have HP := Aside.mk hp
      clear hp
      rcases e5.it.1 h1 with h5 | h5
      · have q5 : (t.k == 5) = true := by simpa using h5
        clear h1 h5
        by_cases hat : fndI L t.k t.s < 0
        · go_wp2_with (first
            | (at_builtin; refine wpList_appendR rfl (.tmp 38) (.tmp 40) 26 rfl 35 zT 3 16 Tryz.underlying26 infoT rfl (by decide) w4 ((Keeps.refl _ _).alloc _) w2.heap.size _ _ _ o4.it _ 1 (tcells t) (readsK_new _ _ (tcells t)) (tcells_one t) (by omega) (by unfold maxLen; omega) (KW.it w4 k4.it).size rfl rfl ?_; intro v5 w5 o5 k5 b5; obtain ⟨h0, h1, h2, hv5⟩ := owns_shapeK o5.it; subst hv5)
            | (at_builtin; refine wpList_appendR rfl (.tmp 35) (.tmp 36) 26 rfl 35 zT 3 16 Tryz.underlying26 infoT rfl (by decide) _ (Keeps.refl _ _) w2.heap.size _ _ _ (lit0 w2 w2.heap.size (Nat.le_refl _)) _ L.length _ R3.it (flatT_one _) (by omega) (by unfold maxLen; omega) K3.it.size rfl rfl ?_; intro v4 w4 o4 k4 b4; obtain ⟨g0, g1, g2, hv4⟩ := owns_shapeK o4.it; subst hv4; obtain ⟨y0, y1, y2⟩ := TB.of (C2.it.later (KW.it w4 k4.it) (fun x => x)))
            | fail)
          all_goals (try (exfalso; omega))
          go_ret2
          refine ⟨_, by rw [HP.it]; rfl, ⟨.inr ?_⟩, ⟨(K2.it.trans ((KW.it w4 k4.it).alloc _)).next k5.it (fun b hb hlt => by have := owns_base o4.it b hb; have := K2.it.size; omega)⟩⟩
          rw [HP.it]
          have hh := owns_mono o5.it K2.it.size
          rw [flatT_snoc, List.length_append]
          rw [List.nil_append, Nat.zero_add] at hh
          exact hh
        · go_wp2_with (first
            | (at_builtin; refine wpList_appendR rfl (.tmp 38) (.tmp 40) 26 rfl 35 zT 3 16 Tryz.underlying26 infoT rfl (by decide) w4 ((Keeps.refl _ _).alloc _) w2.heap.size _ _ _ o4.it _ 1 (tcells t) (readsK_new _ _ (tcells t)) (tcells_one t) (by omega) (by unfold maxLen; omega) (KW.it w4 k4.it).size rfl rfl ?_; intro v5 w5 o5 k5 b5; obtain ⟨h0, h1, h2, hv5⟩ := owns_shapeK o5.it; subst hv5)
            | (at_builtin; refine wpList_appendR rfl (.tmp 35) (.tmp 36) 26 rfl 35 zT 3 16 Tryz.underlying26 infoT rfl (by decide) _ (Keeps.refl _ _) w2.heap.size _ _ _ (lit0 w2 w2.heap.size (Nat.le_refl _)) _ L.length _ R3.it (flatT_one _) (by omega) (by unfold maxLen; omega) K3.it.size rfl rfl ?_; intro v4 w4 o4 k4 b4; obtain ⟨g0, g1, g2, hv4⟩ := owns_shapeK o4.it; subst hv4; obtain ⟨y0, y1, y2⟩ := TB.of (C2.it.later (KW.it w4 k4.it) (fun x => x)))
            | fail)
          all_goals (try (exfalso; omega))
          go_ret2
          refine ⟨_, by rw [HP.it]; rfl, ⟨.inr ?_⟩, ⟨(K2.it.trans ((KW.it w4 k4.it).alloc _)).next k5.it (fun b hb hlt => by have := owns_base o4.it b hb; have := K2.it.size; omega)⟩⟩
          rw [HP.it]
          have hh := owns_mono o5.it K2.it.size
          rw [flatT_snoc, List.length_append]
          rw [List.nil_append, Nat.zero_add] at hh
          exact hh
      · have q5 : (t.k == 5) = false := by simp; omega
        have q6 : (t.k == 6) = true := by simpa using h5
        clear h1 h5
        by_cases hat : fndI L t.k t.s < 0
        · go_wp2_with (first
            | (at_builtin; refine wpList_appendR rfl (.tmp 38) (.tmp 40) 26 rfl 35 zT 3 16 Tryz.underlying26 infoT rfl (by decide) w4 ((Keeps.refl _ _).alloc _) w2.heap.size _ _ _ o4.it _ 1 (tcells t) (readsK_new _ _ (tcells t)) (tcells_one t) (by omega) (by unfold maxLen; omega) (KW.it w4 k4.it).size rfl rfl ?_; intro v5 w5 o5 k5 b5; obtain ⟨h0, h1, h2, hv5⟩ := owns_shapeK o5.it; subst hv5)
            | (at_builtin; refine wpList_appendR rfl (.tmp 35) (.tmp 36) 26 rfl 35 zT 3 16 Tryz.underlying26 infoT rfl (by decide) _ (Keeps.refl _ _) w2.heap.size _ _ _ (lit0 w2 w2.heap.size (Nat.le_refl _)) _ L.length _ R3.it (flatT_one _) (by omega) (by unfold maxLen; omega) K3.it.size rfl rfl ?_; intro v4 w4 o4 k4 b4; obtain ⟨g0, g1, g2, hv4⟩ := owns_shapeK o4.it; subst hv4; obtain ⟨y0, y1, y2⟩ := TB.of (C2.it.later (KW.it w4 k4.it) (fun x => x)))
            | fail)
          all_goals (try (exfalso; omega))
          go_ret2
          refine ⟨_, by rw [HP.it]; rfl, ⟨.inr ?_⟩, ⟨(K2.it.trans ((KW.it w4 k4.it).alloc _)).next k5.it (fun b hb hlt => by have := owns_base o4.it b hb; have := K2.it.size; omega)⟩⟩
          rw [HP.it]
          have hh := owns_mono o5.it K2.it.size
          rw [flatT_snoc, List.length_append]
          rw [List.nil_append, Nat.zero_add] at hh
          exact hh
        · go_wp2_with (first
            | (at_builtin; refine wpList_appendR rfl (.tmp 38) (.tmp 40) 26 rfl 35 zT 3 16 Tryz.underlying26 infoT rfl (by decide) w4 ((Keeps.refl _ _).alloc _) w2.heap.size _ _ _ o4.it _ 1 (tcells t) (readsK_new _ _ (tcells t)) (tcells_one t) (by omega) (by unfold maxLen; omega) (KW.it w4 k4.it).size rfl rfl ?_; intro v5 w5 o5 k5 b5; obtain ⟨h0, h1, h2, hv5⟩ := owns_shapeK o5.it; subst hv5)
            | (at_builtin; refine wpList_appendR rfl (.tmp 35) (.tmp 36) 26 rfl 35 zT 3 16 Tryz.underlying26 infoT rfl (by decide) _ (Keeps.refl _ _) w2.heap.size _ _ _ (lit0 w2 w2.heap.size (Nat.le_refl _)) _ L.length _ R3.it (flatT_one _) (by omega) (by unfold maxLen; omega) K3.it.size rfl rfl ?_; intro v4 w4 o4 k4 b4; obtain ⟨g0, g1, g2, hv4⟩ := owns_shapeK o4.it; subst hv4; obtain ⟨y0, y1, y2⟩ := TB.of (C2.it.later (KW.it w4 k4.it) (fun x => x)))
            | fail)
          all_goals (try (exfalso; omega))
          go_ret2
          refine ⟨_, by rw [HP.it]; rfl, ⟨.inr ?_⟩, ⟨(K2.it.trans ((KW.it w4 k4.it).alloc _)).next k5.it (fun b hb hlt => by have := owns_base o4.it b hb; have := K2.it.size; omega)⟩⟩
          rw [HP.it]
          have hh := owns_mono o5.it K2.it.size
          rw [flatT_snoc, List.length_append]
          rw [List.nil_append, Nat.zero_add] at hh
          exact hh
    · have q5 : (t.k == 5) = false := by unfold Single at hs; simp; omega
      have q6 : (t.k == 6) = false := by unfold Single at hs; simp; omega
      obtain ⟨hi, _⟩ := List.getElem?_eq_some_iff.1 hLi
      have i1 : ¬ ((i : Int) < 0) := by omega
      have i2 : (i : Int) < L.length := by omega
      have i3 : (0 : Int) ≤ i := by omega
      obtain ⟨g, o, rfl, a0, a1, a2⟩ := HA.it i u hLi
      have c2 : w2.cell? ⟨g, o + i * 3 + 2, none⟩ = some (.int .u32 u.v) := by rw [World.cell?_of_block (K2.it.block _ (World.block_lt_of_cell? w _ a2) (fun x => x))]; exact a2
      have huv := (HW.it u (List.mem_of_getElem? hLi)).v1
      rw [hf]
      clear hf a0 a1 a2
      rcases hp with ⟨h3, hp⟩ | ⟨h3, ho, hp⟩ | ⟨h3, ho, hp⟩
      · have HP := Aside.mk hp
        have q3 : (t.k != 3) = true := by simpa using h3
        clear hp h3
        go_wp2
        go_ret2
        refine ⟨_, by rw [HP.it]; rfl, ⟨.inl ⟨rfl, by rw [HP.it]⟩⟩, K2⟩
      · have HP := Aside.mk hp
        have q3 : (t.k != 3) = false := by simpa using h3
        have ho' : (4294967295 : Int) < (u.v : Int) + t.v := by omega
        clear hp h3 ho
        go_wp2_with fail
        go_region
        go_wp2
        go_ret2
        refine ⟨_, by rw [HP.it]; rfl, ⟨.inl ⟨rfl, by rw [HP.it]⟩⟩, ⟨K2.it.drew⟩⟩
      · have HP := Aside.mk hp
        have q3 : (t.k != 3) = false := by simpa using h3
        have ho' : ¬ (4294967295 : Int) < (u.v : Int) + t.v := by omega
        clear hp h3 ho
        have ho2 : (u.v : Int) + t.v ≤ 4294967295 := by omega
        have R4 : Aside (ReadsK 3 (w2.drew.alloc (.cells #[] 35)) (.slice (some ⟨g, o, none⟩) L.length ca) L.length (flatT L)) := ⟨HV.it.quiet (K2.it.drew.alloc _)⟩
        have hLp : 0 < L.length := by omega
        go_upto_region 11 with fail
        go_region
        go_upto_region 15 with (first
          | (at_builtin; refine wpList_appendR rfl (.tmp 58) (.tmp 59) 26 rfl 35 zT 3 16 Tryz.underlying26 infoT rfl (by decide) _ (Keeps.refl _ _) w2.heap.size _ _ _ (lit0 w2.drew w2.heap.size (Nat.le_refl _)) _ L.length _ R4.it (flatT_one _) (by omega) (by unfold maxLen; omega) K3.it.size rfl rfl ?_; intro v4 w4 o4 k4 b4; obtain ⟨gg, gc, hv4⟩ := owns_some o4.it (by omega); subst hv4)
          | fail)
        have HLI := Aside.mk hLi
        have o4' := o4.it
        rw [List.nil_append, Nat.zero_add] at o4'
        have O4 := Aside.mk o4'
        have c4 : w4.cell? ⟨gg, i * 3 + 2, none⟩ = some (.int .u32 u.v) := by
          obtain ⟨_, a, c, he, _, _, _, hc⟩ := owns_readsK o4'
          obtain ⟨g', o', ha, hcell⟩ := hc (i * 3 + 2) (.int .u32 u.v) (by rw [flatT_at L i u hLi 2 (by decide)]; rfl)
          injection he with he _ _
          rw [ha] at he
          injection he with he
          injection he with e1 e2
          subst e1 e2
          rw [Nat.zero_add] at hcell
          exact hcell
        have f4 := owns_frozen o4' (i * 3 + 2)
        have KX : Aside (Keeps Nowhere w2 w4) := ⟨(((Keeps.refl Nowhere w2).drew.alloc _)).next k4.it (fun b hb hlt => by
          have : w2.heap.size = b := by simpa [Value.ownBlock] using hb
          omega)⟩
        have hgb : Aside (w2.heap.size ≤ gg) := ⟨owns_base o4' gg rfl⟩
        clear o4' hLi o4 k4 b4 R3 R4 KW K3
        go_wp2
        all_goals (try (exfalso; omega))
        go_ret2
        refine ⟨_, by rw [HP.it]; rfl, ⟨.inr ?_⟩, ⟨((K2.it.trans KX.it).next (S' := fun k => k = gg) ((Keeps.refl _ _).setCell _ _ (fun _ => rfl)) (fun b hb hlt => by have := hgb.it; have := K2.it.size; omega))⟩⟩
        rw [HP.it, flatT_set L i u _ HLI.it, List.length_set]
        have hh := owns_setCell O4.it (i * 3 + 2) (by omega) (.int .u32 ((u.v : Int) + t.v))
        rw [Int.natCast_add]
        exact owns_mono hh K2.it.size
  · have zn : ((mayT t : Int) != 0) = true := by simpa using hm
    have HP := Aside.mk (putL_bad (l := L) hm)
    clear hm
    go_wp2
    go_ret2
    refine ⟨_, ?_, ⟨.inl ⟨rfl, by rw [HP.it]⟩⟩, K1⟩
    rw [HP.it]
    rfl
end Go.Proofs.YtnohcbdnhpaafaaGreatDoor

/-
  a lane's Count; lists with one thing less
-/
namespace Go.Proofs.YtnohcbdnhpaafaaGreatDoor
open Go.RowKit

variable {A : Nat → Addr} {w w' w0 : World} {own own' : Nat → Nat} {p m : Nat} {L : List Tk} {I : Nat → Prop} {vm : Value}

theorem countX (h : Ln A w0 own w p L m) (hm : m ≤ 8796093022208) (kind : Int) : Calls Tryz.prog 60 #[ptr p, .int .i64 kind] w fun e w' => e = .returned (.int .i64 (cntK kind L)) ∧ Aside (Keeps Nowhere w w') := by
  obtain ⟨Z, h1, rfl⟩ := h.l
  exact count_at h1 hm kind
theorem nextE' (h : Ln A w0 own w p [] m) : Calls Tryz.prog 36 #[ptr p] w fun e w' => e = .returned (.tuple #[tkv 0 0 0, .bool false]) ∧ Aside (Keeps Nowhere w w') ∧ Aside (Ln A w0 own w' p [] m) := by
  obtain ⟨Z, h1, h2⟩ := h.l
  obtain rfl : Z = [] := by simpa using h2
  refine (next_empty h1).mono ?_
  rintro e w' ⟨rfl, k⟩
  exact ⟨rfl, ⟨k⟩, ⟨h.quiet k⟩⟩
theorem Ln.pair (h : Ln A w0 own w p L m) : L.Pairwise (fun x y => x.k = y.k → x.s = y.s → ¬ Single x.k) := by
  obtain ⟨Z, ⟨fp, mb, F, h1⟩, rfl⟩ := h.l
  exact List.pairwise_map.2 h1.ok.uniq
theorem Ln.wideL (h : Ln A w0 own w p L m) : ∀ t ∈ L, t.Wide := by
  obtain ⟨Z, ⟨fp, mb, F, h1⟩, rfl⟩ := h.l
  intro t ht
  obtain ⟨x, hx, rfl⟩ := List.mem_map.1 ht
  exact (h1.ok.may x hx).2
theorem erase_none (L : List Tk) (f : Tk → Bool) (h : L.findIdx? f = none) : L.eraseP f = L ∧ L.any f = false := by
  rw [List.findIdx?_eq_none_iff] at h
  exact ⟨List.eraseP_of_forall_not (fun x hx => by rw [h x hx]; simp), List.any_eq_false.2 (fun x hx => by rw [h x hx]; simp)⟩
theorem erase_none2 (L : List Tk) (f : Tk → Bool) (h : L.any f = false) : L.eraseP f = L := List.eraseP_of_forall_not (fun x hx => List.any_eq_false.1 h x hx)
theorem erase_some (L : List Tk) (f : Tk → Bool) (i : Nat) (h : L.findIdx? f = some i) : L.eraseP f = L.take i ++ L.drop (i + 1) ∧ L.any f = true ∧ i < L.length := by
  induction L generalizing i with
  | nil => simp at h
  | cons x L ih =>
    rw [List.findIdx?_cons] at h
    cases hx : f x with
    | true =>
      rw [hx] at h
      simp only [if_true, Option.some.injEq] at h
      subst h
      refine ⟨by rw [List.eraseP_cons_of_pos hx]; rfl, by rw [List.any_cons, hx, Bool.true_or], by simp⟩
    | false =>
      rw [hx] at h
      cases hf : L.findIdx? f with
      | none => rw [hf] at h; simp at h
      | some j =>
        rw [hf] at h
        simp at h
        subst h
        obtain ⟨a, b, c⟩ := ih j hf
        refine ⟨?_, by rw [List.any_cons, hx, b, Bool.false_or], by simp only [List.length_cons]; omega⟩
        rw [List.eraseP_cons_of_neg (by rw [hx]; simp), a]
        rfl
end Go.Proofs.YtnohcbdnhpaafaaGreatDoor

