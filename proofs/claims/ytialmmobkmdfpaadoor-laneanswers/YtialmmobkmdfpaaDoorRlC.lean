/-
  culvertref11: Forget, Without
-/
import Derived.Test.YtialmmobkmdfpaaDoorRlB
namespace Go.Proofs.YtialmmobkmdfpaaDoor
open Go.RowKit

variable {A : Nat → Addr} {w w' w0 : World} {L : List Tk}
abbrev zT : Value := .agg #[.int .i64 0, .int .u32 0, .int .u32 0]
theorem lit0 (w : World) (base : Nat) (h : base ≤ w.heap.size) : (w.alloc (.cells #[] 30)).ownsRow base 30 3 (.slice (some ⟨w.heap.size, 0, none⟩) 0 0) 0 [] := World.ownsRow_lit w #[] 0 h (Nat.zero_le _) rfl
theorem tcells_one (t : Tk) : ∀ u ∈ tcells t, u.oneCell' = true := by simp [tcells, Value.oneCell']
theorem flatT_one (L : List Tk) : ∀ u ∈ flatT L, u.oneCell' = true := by
  intro u hu
  simp only [flatT, List.mem_flatMap] at hu
  obtain ⟨t, _, h⟩ := hu
  exact tcells_one t u h
theorem filter_take (L : List Tk) (f : Tk → Bool) (j : Nat) (t : Tk) (h : L[j]? = some t) : (L.take (j + 1)).filter f = (L.take j).filter f ++ if f t then [t] else [] := by
  rw [List.take_add_one, h, List.filter_append]
  cases hf : f t <;> simp [hf]
theorem filter_count (L : List Tk) (s : Nat) : L.length - (L.filter (fun t => !decide (t.s = s))).length = L.countP (fun t => decide (t.s = s)) ∧ (L.filter (fun t => !decide (t.s = s))).length ≤ L.length := by
  have h := List.length_eq_countP_add_countP (l := L) (fun t => decide (t.s = s))
  have e : (L.filter (fun t => !decide (t.s = s))).length = L.countP (fun t => !decide (t.s = s)) := (List.countP_eq_length_filter).symm
  have e2 : L.countP (fun t => decide ¬ decide (t.s = s) = true) = L.countP (fun t => !decide (t.s = s)) := List.countP_congr fun t _ => by simp
  rw [e2] at h
  omega
set_option maxHeartbeats 2000000 in
theorem forgetR (v : Value) (L : List Tk) (s : Nat) (hv : RdT w v L) (hb : L.length * 16 ≤ 140737488355328) : Calls Tryd.prog 30 #[v, .int .u32 s] w fun e w' => ∃ v', e = .returned (.tuple #[v', .int .i64 (L.countP (fun t => decide (t.s = s)))]) ∧ Aside (w'.ownsRow w.heap.size 30 3 v' (L.filter (fun t => !decide (t.s = s))).length (flatT (L.filter (fun t => !decide (t.s = s))))) ∧ Aside (Keeps Nowhere w w') := by
  obtain ⟨qa, ca, rfl, hla, hma, ha⟩ := hv.at
  obtain ⟨N, hN⟩ : ∃ N, N = L.length := ⟨_, rfl⟩
  rw [← hN] at hla hb ⊢
  have HN := Aside.mk hN
  have HA := Aside.mk ha
  have hn1 : (N : Int) ≤ 8796093022208 := by omega
  clear hN ha hma
  go_enter Tryd.func30, Tryd.ntmps30
  go_upto_region 2 with fail
  have O0 := Aside.mk (lit0 w w.heap.size (Nat.le_refl _))
  have K0 : Aside (Keeps Nowhere w (w.alloc (.cells #[] 30))) := ⟨(Keeps.refl _ _).alloc _⟩
  generalize w.alloc (.cells #[] 30) = W0 at O0 K0 ⊢
  generalize hws : w.heap.size = ws at O0 ⊢
  have HWS := Aside.mk hws
  clear hws
  go_wp2_with fail
  go_loopw [6, 7] (fun lv i wr => ∃ (j : Nat) (la : Option Addr) (ln lc : Nat), lv = .slice la ln lc ∧ i = .int .i64 j ∧ j ≤ N ∧ Aside (wr.ownsRow ws 30 3 (.slice la ln lc) ((L.take j).filter (fun t => !decide (t.s = s))).length (flatT ((L.take j).filter (fun t => !decide (t.s = s))))) ∧ Aside (Keeps Nowhere w wr)) (fun _ i _ => N - (intOf i).toNat)
  case atStart => exact ⟨0, _, _, _, rfl, rfl, Nat.zero_le _, O0, K0⟩
  case round =>
    clear O0 K0
    obtain ⟨j, la, ln, lc, rfl, rfl, hj, HO, hk⟩ := hrel
    rcases Nat.eq_or_lt_of_le hj with rfl | hlt
    · have HO' := HO.it
      rw [show L.take j = L by rw [HN.it, List.take_length]] at HO'
      obtain ⟨_, _, ev, _⟩ := (owns_readsK HO').2
      injection ev with _ ev _
      obtain ⟨fc, fl⟩ := filter_count L s
      have FC := Aside.mk fc
      rw [← HN.it] at fl
      rw [ev]
      have HO2 := Aside.mk HO'
      rw [ev] at HO2
      clear HO HO' ev fc
      obtain ⟨fl', hfl'⟩ : ∃ x, Aside (x = (L.filter (fun t => !decide (t.s = s))).length) := ⟨_, ⟨rfl⟩⟩
      rw [← hfl'.it] at fl HO2 FC ⊢
      have hfl : (fl' : Int) ≤ j := by omega
      go_wp2
      go_ret2
      refine ⟨_, ?_, by rw [HWS.it, ← hfl'.it]; exact HO2, hk⟩
      have h1 := FC.it
      have h2 := HN.it
      rw [show ((j : Int) - fl') = (L.countP (fun t => decide (t.s = s)) : Nat) by omega]
      rfl
    · obtain ⟨t, ht⟩ : ∃ t, L[j]? = some t := ⟨_, List.getElem?_eq_getElem (by rw [← HN.it]; exact hlt)⟩
      obtain ⟨g, o, rfl, a0, a1, a2⟩ := HA.it j t ht
      have ev : ∀ {p v}, w.cell? p = some v → wr.cell? p = some v := fun {p v} h => by rw [World.cell?_of_block (hk.it.block _ (World.block_lt_of_cell? w _ h) (fun x => x))]; exact h
      have c0 := ev a0
      have c1 := ev a1
      have c2 := ev a2
      have l1 : (j : Int) < N := by omega
      have l2 : (0 : Int) ≤ j := by omega
      have FT := Aside.mk (filter_take L (fun t => !decide (t.s = s)) j t ht)
      have hrl : Aside (((L.take j).filter (fun t => !decide (t.s = s))).length ≤ j) := ⟨Nat.le_trans (List.length_filter_le _ _) (by rw [List.length_take]; omega)⟩
      clear a0 a1 a2 ht ev
      by_cases h1 : (t.s : Int) = s
      · have e1 : ((t.s : Int) != s) = false := by simpa using h1
        have FF : Aside ((L.take (j + 1)).filter (fun t => !decide (t.s = s)) = (L.take j).filter (fun t => !decide (t.s = s))) := ⟨by rw [FT.it, if_neg (by simp; omega), List.append_nil]⟩
        clear h1
        go_wp2
        go_roundw
        case rel => exact ⟨j + 1, la, ln, lc, rfl, by go_num, by omega, by rw [FF.it]; exact HO, hk⟩
        case measure => (simp only [intOf]; omega)
      · have e1 : ((t.s : Int) != s) = true := by simpa using h1
        have FF : Aside ((L.take (j + 1)).filter (fun t => !decide (t.s = s)) = (L.take j).filter (fun t => !decide (t.s = s)) ++ [t]) := ⟨by rw [FT.it, if_pos (by simp; omega)]⟩
        clear h1
        have hws : ws ≤ wr.heap.size := by rw [← HWS.it]; exact hk.it.size
        go_wp2_with (at_builtin; refine wpList_appendR rfl (.tmp 22) (.tmp 27) 26 rfl 30 zT 3 16 Tryd.underlying26 infoT rfl (by decide) wr ((Keeps.refl _ _).alloc _) ws _ _ _ HO.it _ 1 (tcells t) (readsK_new _ _ (tcells t)) (tcells_one t) (by have h2 := hrl.it; omega) (by unfold maxLen; have h2 := hrl.it; omega) hws rfl rfl ?_; intro v' w' o' k' b'; obtain ⟨g0, g1, g2, hv'⟩ := owns_shapeK o'.it; subst hv')
        go_roundw
        case rel =>
          refine ⟨j + 1, g0, g1, g2, rfl, by go_num, by omega, ⟨?_⟩, ⟨?_⟩⟩
          · rw [FF.it, flatT_snoc, List.length_append]
            exact o'.it
          · exact (hk.it.alloc _).next k'.it (fun b hb hlt' => by have := owns_base HO.it b hb; have := HWS.it; omega)
        case measure => (simp only [intOf]; omega)

theorem RdT.take {a : Option Addr} {c k : Nat} (h : RdT w (.slice a L.length c) L) (hk : k ≤ L.length) : RdT w (.slice a k c) (L.take k) := by
  obtain ⟨hl, a', c', he, h1, h2, h3, hc⟩ := h
  injection he with e1 _ e3
  subst e1 e3
  have hlen : (L.take k).length = k := by rw [List.length_take]; omega
  refine ⟨by rw [flatT_len], a, c, by rw [hlen], by rw [hlen]; omega, h2, h3, fun j u hj => ?_⟩
  have hjl : j < (flatT (L.take k)).length := (List.getElem?_eq_some_iff.1 hj).1
  rw [flatT_len, hlen] at hjl
  obtain ⟨t, ht⟩ : ∃ t, L[j / 3]? = some t := ⟨_, List.getElem?_eq_getElem (by omega)⟩
  have e1 : (flatT (L.take k))[j / 3 * 3 + j % 3]? = (tcells t)[j % 3]? := flatT_at _ _ _ (by rw [List.getElem?_take, if_pos (by omega)]; exact ht) _ (Nat.mod_lt _ (by decide))
  have e2 : (flatT L)[j / 3 * 3 + j % 3]? = (tcells t)[j % 3]? := flatT_at _ _ _ ht _ (Nat.mod_lt _ (by decide))
  rw [Nat.div_add_mod'] at e1 e2
  exact hc j u (by rw [e2, ← e1]; exact hj)
theorem RdT.drop {g o c k : Nat} (h : RdT w (.slice (some ⟨g, o, none⟩) L.length c) L) (hk : k ≤ L.length) : RdT w (.slice (some ((⟨g, o, none⟩ : Addr).add (k * 3))) (L.length - k) (c - k)) (L.drop k) := by
  obtain ⟨hl, a', c', he, h1, h2, h3, hc⟩ := h
  injection he with e1 _ e3
  subst e1 e3
  have hlen : (L.drop k).length = L.length - k := List.length_drop
  refine ⟨by rw [flatT_len], _, c - k, by rw [hlen], by rw [hlen]; omega, by omega, fun e => (by cases e), fun j u hj => ⟨g, o + k * 3, by rw [add_none], ?_⟩⟩
  have hjl : j < (flatT (L.drop k)).length := (List.getElem?_eq_some_iff.1 hj).1
  rw [flatT_len, hlen] at hjl
  obtain ⟨t, ht⟩ : ∃ t, (L.drop k)[j / 3]? = some t := ⟨_, List.getElem?_eq_getElem (by omega)⟩
  have e1 : (flatT (L.drop k))[j / 3 * 3 + j % 3]? = (tcells t)[j % 3]? := flatT_at _ _ _ ht _ (Nat.mod_lt _ (by decide))
  have e2 : (flatT L)[(k + j / 3) * 3 + j % 3]? = (tcells t)[j % 3]? := flatT_at _ _ _ (by rw [List.getElem?_drop] at ht; exact ht) _ (Nat.mod_lt _ (by decide))
  rw [Nat.div_add_mod'] at e1
  obtain ⟨g', o', ha, h4⟩ := hc (k * 3 + j) u (by
    rw [show k * 3 + j = (k + j / 3) * 3 + j % 3 by omega, e2, ← e1]
    exact hj)
  injection ha with ha
  injection ha with e1 e2
  subst e1 e2
  rw [Nat.add_assoc]
  exact h4
theorem rdT_none {q : Option Addr} {c : Nat} (hc : c ≤ maxLen) (hq : q = none → c = 0) : RdT w (.slice q 0 c) [] := ⟨rfl, q, c, rfl, Nat.zero_le _, hc, hq, fun j u hj => by simp [flatT] at hj⟩
set_option maxHeartbeats 2000000 in
theorem withoutR (v : Value) (L : List Tk) (k : Nat) (hv : RdT w v L) (hk : k < L.length) (hb : L.length * 16 ≤ 140737488355328) : Calls Tryd.prog 28 #[v, .int .i64 k] w fun e w' => ∃ v', e = .returned v' ∧ Aside (w'.ownsRow w.heap.size 30 3 v' (L.length - 1) (flatT (L.take k ++ L.drop (k + 1)))) ∧ Aside (Keeps Nowhere w w') := by
  have hv' := hv
  obtain ⟨qa, ca, rfl, hla, hma, ha⟩ := hv.at
  obtain ⟨t, ht⟩ : ∃ t, L[k]? = some t := ⟨_, List.getElem?_eq_getElem hk⟩
  obtain ⟨g, o, rfl, _⟩ := ha k t ht
  have R1 := Aside.mk (hv'.take (k := k) (by omega))
  have R2 := Aside.mk (hv'.drop (k := k + 1) (by omega))
  obtain ⟨N, hN⟩ : ∃ N, N = L.length := ⟨_, rfl⟩
  rw [← hN] at hla hb hk R2 ⊢
  have HN := Aside.mk hN
  have hn1 : (N : Int) ≤ 8796093022208 := by omega
  have n1 : (k : Int) < N := by omega
  have n2 : (0 : Int) ≤ k := by omega
  have n3 : (N : Int) ≤ ca := by omega
  have O0 := Aside.mk (lit0 w w.heap.size (Nat.le_refl _))
  have K0 : Keeps Nowhere w (w.alloc (.cells #[] 30)) := (Keeps.refl _ _).alloc _
  have R1' := Aside.mk (R1.it.quiet K0)
  have HL : Aside ((L.take k).length = k) := ⟨by rw [List.length_take]; omega⟩
  have K0' := Aside.mk K0
  clear hv hv' ha ht hN hma K0
  unfold RdT at R1' R2
  rw [HL.it] at R1'
  have HD : Aside ((L.drop (k + 1)).length = N - (k + 1)) := ⟨by rw [List.length_drop, HN.it]⟩
  have KW : Aside (∀ w1, Keeps (fun b => (Value.slice (some ⟨w.heap.size, 0, none⟩) 0 0).ownBlock = some b) (w.alloc (.cells #[] 30)) w1 → Keeps Nowhere w w1) := ⟨fun w1 h => K0'.it.next h (fun b hb hlt => by
    have : w.heap.size = b := by simpa [Value.ownBlock] using hb
    omega)⟩
  by_cases hc : ca = k + 1
  · have RX2 : Aside (∀ w1, Keeps Nowhere w w1 → ReadsK 3 w1 (.slice (some ⟨g, o, none⟩) 0 0) (L.drop (k + 1)).length (flatT (L.drop (k + 1)))) := ⟨fun w1 _ => by
      have e : L.drop (k + 1) = [] := List.eq_nil_of_length_eq_zero (by have := HD.it; omega)
      rw [e]
      exact rdT_none (Nat.zero_le _) (fun h => by cases h)⟩
    have hN1 : N = k + 1 := by omega
    subst hc
    subst hN1
    clear R2
    go_enter Tryd.func28, Tryd.ntmps28
    go_wp2_with (first
      | (at_builtin; refine wpList_appendR rfl (.tmp 11) (.tmp 15) 26 rfl 30 zT 3 16 Tryd.underlying26 infoT rfl (by decide) w1 (Keeps.refl _ _) w.heap.size _ _ _ o1.it _ (L.drop (k + 1)).length _ (RX2.it w1 (KW.it w1 k1.it)) (flatT_one _) (by have := HD.it; omega) (by unfold maxLen; have := HD.it; omega) (KW.it w1 k1.it).size rfl rfl ?_; intro v2 w2 o2 k2 b2; obtain ⟨h0, h1, h2, hv2⟩ := owns_shapeK o2.it; subst hv2)
      | (at_builtin; refine wpList_appendR rfl (.tmp 6) (.tmp 9) 26 rfl 30 zT 3 16 Tryd.underlying26 infoT rfl (by decide) _ (Keeps.refl _ _) w.heap.size _ _ _ O0.it _ k _ R1'.it (flatT_one _) (by omega) (by unfold maxLen; omega) K0'.it.size rfl rfl ?_; intro v1 w1 o1 k1 b1; obtain ⟨g0, g1, g2, hv1⟩ := owns_shapeK o1.it; subst hv1)
      | fail)
    go_ret
    refine ⟨_, rfl, ⟨?_⟩, ⟨(KW.it w1 k1.it).next k2.it (fun b hb hlt => by have := owns_base o1.it b hb; omega)⟩⟩
    have hh := o2.it
    rw [List.nil_append] at hh
    have e1 : flatT (L.take k ++ L.drop (k + 1)) = flatT (L.take k) ++ flatT (L.drop (k + 1)) := by simp [flatT]
    rw [e1]
    have e2 : k + 1 - 1 = 0 + k + (L.drop (k + 1)).length := by have := HD.it; omega
    rw [e2]
    exact hh
  · have hc' : ¬ (ca : Int) = k + 1 := by omega
    rw [add_none] at R2
    have RX2 : Aside (∀ w1, Keeps Nowhere w w1 → ReadsK 3 w1 (.slice (some ⟨g, o + (k + 1) * 3, none⟩) (N - (k + 1)) (ca - (k + 1))) (L.drop (k + 1)).length (flatT (L.drop (k + 1)))) := ⟨fun w1 h => ReadsK.later R2.it h (fun _ _ x => x)⟩
    clear R2
    go_enter Tryd.func28, Tryd.ntmps28
    go_wp2_with (first
      | (at_builtin; refine wpList_appendR rfl (.tmp 11) (.tmp 15) 26 rfl 30 zT 3 16 Tryd.underlying26 infoT rfl (by decide) w1 (Keeps.refl _ _) w.heap.size _ _ _ o1.it _ (L.drop (k + 1)).length _ (RX2.it w1 (KW.it w1 k1.it)) (flatT_one _) (by have := HD.it; omega) (by unfold maxLen; have := HD.it; omega) (KW.it w1 k1.it).size rfl rfl ?_; intro v2 w2 o2 k2 b2; obtain ⟨h0, h1, h2, hv2⟩ := owns_shapeK o2.it; subst hv2)
      | (at_builtin; refine wpList_appendR rfl (.tmp 6) (.tmp 9) 26 rfl 30 zT 3 16 Tryd.underlying26 infoT rfl (by decide) _ (Keeps.refl _ _) w.heap.size _ _ _ O0.it _ k _ R1'.it (flatT_one _) (by omega) (by unfold maxLen; omega) K0'.it.size rfl rfl ?_; intro v1 w1 o1 k1 b1; obtain ⟨g0, g1, g2, hv1⟩ := owns_shapeK o1.it; subst hv1)
      | fail)
    go_ret
    refine ⟨_, rfl, ⟨?_⟩, ⟨(KW.it w1 k1.it).next k2.it (fun b hb hlt => by have := owns_base o1.it b hb; omega)⟩⟩
    have hh := o2.it
    rw [List.nil_append] at hh
    have e1 : flatT (L.take k ++ L.drop (k + 1)) = flatT (L.take k) ++ flatT (L.drop (k + 1)) := by simp [flatT]
    rw [e1]
    have e2 : N - 1 = 0 + k + (L.drop (k + 1)).length := by have := HD.it; omega
    rw [e2]
    exact hh
end Go.Proofs.YtialmmobkmdfpaaDoor
