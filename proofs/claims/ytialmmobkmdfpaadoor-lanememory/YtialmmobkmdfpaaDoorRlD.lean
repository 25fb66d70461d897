/-
  culvertref11: Put
-/
import Derived.Test.YtialmmobkmdfpaaDoorRlC
import Derived.Test.YtialmmobkmdfpaaDoorLnR
namespace Go.Proofs.YtialmmobkmdfpaaDoor
open Go.RowKit

variable {A : Nat → Addr} {w w' w0 : World} {L : List Tk}

/-- the document's Put by the place that Find tells -/
theorem putL_find (L : List Tk) (t : Tk) (hm : mayT t = 0) (hu : L.Pairwise (fun x y => x.k = y.k → x.s = y.s → ¬ Single x.k)) :
    (fndI L t.k t.s < 0 ∧ putL L t = (L ++ [t], 0)) ∨ (¬ Single t.k ∧ putL L t = (L ++ [t], 0)) ∨
    ∃ i u, fndI L t.k t.s = (i : Nat) ∧ L[i]? = some u ∧ Single t.k ∧ ((t.k ≠ 3 ∧ putL L t = (L, 8)) ∨ (t.k = 3 ∧ 4294967295 < u.v + t.v ∧ putL L t = (L, 4)) ∨ (t.k = 3 ∧ ¬ 4294967295 < u.v + t.v ∧ putL L t = (L.set i { u with v := u.v + t.v }, 0))) := by
  by_cases hs : Single t.k
  · cases hf : L.findIdx? (isT t.k t.s) with
    | none =>
      left
      have h1 : fndI L t.k t.s = -1 := by unfold fndI; rw [hf]
      rw [List.findIdx?_eq_none_iff] at hf
      have h2 : L.find? (isT t.k t.s) = none := by
        rw [List.find?_eq_none]
        intro x hx
        rw [hf x hx]
        simp
      refine ⟨by omega, ?_⟩
      unfold putL
      rw [if_neg (by simp [hm]), if_neg (by simp [hs]), h2]
    | some i =>
      right; right
      have h1 : fndI L t.k t.s = (i : Nat) := by unfold fndI; rw [hf]
      rw [List.findIdx?_eq_some_iff_getElem] at hf
      obtain ⟨hi, hp, hn⟩ := hf
      have hLi : L[i]? = some L[i] := List.getElem?_eq_getElem hi
      have h2 : L.find? (isT t.k t.s) = some L[i] := by
        rw [List.find?_eq_some_iff_getElem]
        exact ⟨hp, i, hi, rfl, fun j hj => by simpa using hn j hj⟩
      obtain ⟨a, b⟩ := isT_iff.1 hp
      refine ⟨i, L[i], h1, hLi, hs, ?_⟩
      unfold putL
      rw [if_neg (by simp [hm]), if_neg (by simp [hs]), h2]
      simp only
      by_cases h3 : t.k = 3
      · rw [if_neg (by simp [h3])]
        by_cases ho : 4294967295 < L[i].v + t.v
        · exact .inr (.inl ⟨h3, ho, by rw [if_pos ho]⟩)
        · refine .inr (.inr ⟨h3, ho, ?_⟩)
          rw [if_neg ho]
          congr 1
          refine List.ext_getElem? fun j => ?_
          rw [List.getElem?_map, List.getElem?_set]
          by_cases hj : i = j
          · subst hj
            rw [if_pos rfl, if_pos hi, hLi]
            simp only [Option.map_some, hp, if_true]
          · rw [if_neg hj]
            cases hLj : L[j]? with
            | none => rfl
            | some x =>
              simp only [Option.map_some, Option.some.injEq]
              rw [if_neg]
              intro hx
              obtain ⟨c, d⟩ := isT_iff.1 hx
              obtain ⟨hjl, hje⟩ := List.getElem?_eq_some_iff.1 hLj
              rcases Nat.lt_or_gt_of_ne hj with hlt | hgt
              · have := List.pairwise_iff_getElem.1 hu i j hi hjl hlt (by rw [a, hje, c]) (by rw [b, hje, d])
                rw [a] at this
                exact this hs
              · have := List.pairwise_iff_getElem.1 hu j i hjl hi hgt (by rw [a, hje, c]) (by rw [b, hje, d])
                rw [hje, c] at this
                exact this hs
      · exact .inl ⟨h3, by rw [if_pos (by simp [h3])]⟩
  · right; left
    refine ⟨hs, ?_⟩
    unfold putL
    rw [if_neg (by simp [hm]), if_pos hs]
theorem flatT_set (L : List Tk) (i : Nat) (u : Tk) (n : Nat) (h : L[i]? = some u) : flatT (L.set i { u with v := n }) = (flatT L).set (i * 3 + 2) (.int .u32 (n : Nat)) := by
  induction L generalizing i with
  | nil => simp at h
  | cons x L ih =>
    cases i with
    | zero =>
      simp only [List.getElem?_cons_zero, Option.some.injEq] at h
      subst h
      simp [flatT]
    | succ i =>
      rw [List.getElem?_cons_succ] at h
      have := ih i h
      rw [List.set_cons_succ]
      simp only [flatT, List.flatMap_cons] at this ⊢
      rw [this, List.set_append_right _ _ (by simp; omega)]
      congr 1
      simp
      congr 1
      omega
theorem owns_some {base n : Nat} {v : Value} {xs : List Value} (h : w.ownsRow base 30 3 v n xs) (hn : 0 < n) : ∃ g c, v = .slice (some ⟨g, 0, none⟩) n c := by
  rcases h.2 with ⟨_, h0⟩ | ⟨g, cap, cur, he, _⟩
  · omega
  · exact ⟨g, cap, he⟩
set_option maxHeartbeats 4000000 in
theorem putR (v : Value) (L : List Tk) (t : Tk) (hv : RdT w v L) (ht : t.Wide) (hu : L.Pairwise (fun x y => x.k = y.k → x.s = y.s → ¬ Single x.k)) (hw : ∀ x ∈ L, x.Wide) (hb : L.length * 16 + 16 ≤ 140737488355328) :
    Calls Tryd.prog 27 #[v, tkv t.k t.s t.v] w fun e w' => ∃ v', e = .returned (.tuple #[v', .int .i64 ((putL L t).2 : Nat)]) ∧ Aside ((v' = v ∧ (putL L t).1 = L) ∨ w'.ownsRow w.heap.size 30 3 v' (putL L t).1.length (flatT (putL L t).1)) ∧ Aside (Keeps Nowhere w w') := by
  have HV := Aside.mk hv
  obtain ⟨qa, ca, rfl, hla, hma, ha⟩ := hv.at
  have HA := Aside.mk ha
  obtain ⟨W0, hW0⟩ : ∃ W0, W0 = w.alloc (tbox t.k t.s t.v) := ⟨_, rfl⟩
  have K0 : Aside (Keeps Nowhere w W0) := ⟨by rw [hW0]; exact (Keeps.refl _ _).alloc _⟩
  have C0 : Aside (Cells W0 w.heap.size 30 (tcells t)) := ⟨by rw [hW0]; exact tbox_new _ _ _ _⟩
  obtain ⟨b0, b1, b2⟩ := TB.of C0.it
  have MY := Aside.mk (mayR (w := W0) t)
  have FD := Aside.mk (fun W (k : Keeps Nowhere w W) => findR (w := W) _ L t.k t.s (HV.it.quiet k))
  have HU := Aside.mk hu
  have HW := Aside.mk hw
  have htv := ht.v1
  clear ha hv hu hw hma ht
  go_enter Tryd.func27, Tryd.ntmps27
  go_upto_region 1 with fail
  rw [← hW0]
  clear hW0
  go_upto_region 2 with (first | (go_at_call 44; refine MY.it.mono ?_; rintro e w1 ⟨rfl, k1⟩) | fail)
  have K1 := Aside.mk (K0.it.trans k1)
  have C1 := Aside.mk (C0.it.later k1 (fun x => x))
  clear b0 b1 b2 k1
  obtain ⟨b0, b1, b2⟩ := TB.of C1.it
  by_cases hm : mayT t = 0
  · rw [hm]
    have z0 : (((0 : Nat) : Int) != 0) = false := rfl
    have F1 := Aside.mk (FD.it w1 K1.it)
    go_upto_region 6 with (first | (go_at_call 29; refine F1.it.mono ?_; rintro e w2 ⟨rfl, k2⟩) | fail)
    have K2 := Aside.mk (K1.it.trans k2.it)
    have C2 := Aside.mk (C1.it.later k2.it (fun x => x))
    clear b0 b1 b2 k2 F1 FD MY z0
    obtain ⟨b0, b1, b2⟩ := TB.of C2.it
    have K3 : Aside (Keeps Nowhere w2 (w2.alloc (.cells #[] 30))) := ⟨(Keeps.refl _ _).alloc _⟩
    have R3 : Aside (ReadsK 3 (w2.alloc (.cells #[] 30)) (.slice qa L.length ca) L.length (flatT L)) := ⟨HV.it.quiet (K2.it.trans K3.it)⟩
    have KW : Aside (∀ w1, Keeps (fun b => (Value.slice (some ⟨w2.heap.size, 0, none⟩) 0 0).ownBlock = some b) (w2.alloc (.cells #[] 30)) w1 → Keeps Nowhere w2 w1) := ⟨fun w1 h => K3.it.next h (fun b hb hlt => by
      have : w2.heap.size = b := by simpa [Value.ownBlock] using hb
      omega)⟩
    have PF := putL_find L t hm HU.it
    have e5 : Aside (¬ Single t.k ↔ (t.k = 5 ∨ t.k = 6)) := ⟨by unfold Single; omega⟩
    rcases PF with ⟨h1, hp⟩ | ⟨h1, hp⟩ | ⟨i, u, hf, hLi, hs, hp⟩
    · have HP := Aside.mk hp
      clear hp
      go_wp2_with (first
        | (at_builtin; refine wpList_appendR rfl (.tmp 38) (.tmp 40) 26 rfl 30 zT 3 16 Tryd.underlying26 infoT rfl (by decide) w4 ((Keeps.refl _ _).alloc _) w2.heap.size _ _ _ o4.it _ 1 (tcells t) (readsK_new _ _ (tcells t)) (tcells_one t) (by omega) (by unfold maxLen; omega) (KW.it w4 k4.it).size rfl rfl ?_; intro v5 w5 o5 k5 b5; obtain ⟨h0, h1, h2, hv5⟩ := owns_shapeK o5.it; subst hv5)
        | (at_builtin; refine wpList_appendR rfl (.tmp 35) (.tmp 36) 26 rfl 30 zT 3 16 Tryd.underlying26 infoT rfl (by decide) _ (Keeps.refl _ _) w2.heap.size _ _ _ (lit0 w2 w2.heap.size (Nat.le_refl _)) _ L.length _ R3.it (flatT_one _) (by omega) (by unfold maxLen; omega) K3.it.size rfl rfl ?_; intro v4 w4 o4 k4 b4; obtain ⟨g0, g1, g2, hv4⟩ := owns_shapeK o4.it; subst hv4; obtain ⟨y0, y1, y2⟩ := TB.of (C2.it.later (KW.it w4 k4.it) (fun x => x)))
        | fail)
      all_goals (try (exfalso; omega))
      go_ret2
      refine ⟨_, by rw [HP.it]; rfl, ⟨.inr ?_⟩, ⟨(K2.it.trans ((KW.it w4 k4.it).alloc _)).next k5.it (fun b hb hlt => by have := owns_base o4.it b hb; have := K2.it.size; omega)⟩⟩
      rw [HP.it]
      have hh := owns_mono o5.it K2.it.size
      rw [flatT_snoc, List.length_append]
      rw [List.nil_append, Nat.zero_add] at hh
      exact hh
    · have HP := Aside.mk hp
      clear hp
      rcases e5.it.1 h1 with h5 | h5
      · have q5 : (t.k == 5) = true := by simpa using h5
        clear h1 h5
        by_cases hat : fndI L t.k t.s < 0
        · go_wp2_with (first
            | (at_builtin; refine wpList_appendR rfl (.tmp 38) (.tmp 40) 26 rfl 30 zT 3 16 Tryd.underlying26 infoT rfl (by decide) w4 ((Keeps.refl _ _).alloc _) w2.heap.size _ _ _ o4.it _ 1 (tcells t) (readsK_new _ _ (tcells t)) (tcells_one t) (by omega) (by unfold maxLen; omega) (KW.it w4 k4.it).size rfl rfl ?_; intro v5 w5 o5 k5 b5; obtain ⟨h0, h1, h2, hv5⟩ := owns_shapeK o5.it; subst hv5)
            | (at_builtin; refine wpList_appendR rfl (.tmp 35) (.tmp 36) 26 rfl 30 zT 3 16 Tryd.underlying26 infoT rfl (by decide) _ (Keeps.refl _ _) w2.heap.size _ _ _ (lit0 w2 w2.heap.size (Nat.le_refl _)) _ L.length _ R3.it (flatT_one _) (by omega) (by unfold maxLen; omega) K3.it.size rfl rfl ?_; intro v4 w4 o4 k4 b4; obtain ⟨g0, g1, g2, hv4⟩ := owns_shapeK o4.it; subst hv4; obtain ⟨y0, y1, y2⟩ := TB.of (C2.it.later (KW.it w4 k4.it) (fun x => x)))
            | fail)
          all_goals (try (exfalso; omega))
          go_ret2
          refine ⟨_, by rw [HP.it]; rfl, ⟨.inr ?_⟩, ⟨(K2.it.trans ((KW.it w4 k4.it).alloc _)).next k5.it (fun b hb hlt => by have := owns_base o4.it b hb; have := K2.it.size; omega)⟩⟩
          rw [HP.it]
          have hh := owns_mono o5.it K2.it.size
          rw [flatT_snoc, List.length_append]
          rw [List.nil_append, Nat.zero_add] at hh
          exact hh
        · go_wp2_with (first
            | (at_builtin; refine wpList_appendR rfl (.tmp 38) (.tmp 40) 26 rfl 30 zT 3 16 Tryd.underlying26 infoT rfl (by decide) w4 ((Keeps.refl _ _).alloc _) w2.heap.size _ _ _ o4.it _ 1 (tcells t) (readsK_new _ _ (tcells t)) (tcells_one t) (by omega) (by unfold maxLen; omega) (KW.it w4 k4.it).size rfl rfl ?_; intro v5 w5 o5 k5 b5; obtain ⟨h0, h1, h2, hv5⟩ := owns_shapeK o5.it; subst hv5)
            | (at_builtin; refine wpList_appendR rfl (.tmp 35) (.tmp 36) 26 rfl 30 zT 3 16 Tryd.underlying26 infoT rfl (by decide) _ (Keeps.refl _ _) w2.heap.size _ _ _ (lit0 w2 w2.heap.size (Nat.le_refl _)) _ L.length _ R3.it (flatT_one _) (by omega) (by unfold maxLen; omega) K3.it.size rfl rfl ?_; intro v4 w4 o4 k4 b4; obtain ⟨g0, g1, g2, hv4⟩ := owns_shapeK o4.it; subst hv4; obtain ⟨y0, y1, y2⟩ := TB.of (C2.it.later (KW.it w4 k4.it) (fun x => x)))
            | fail)
          all_goals (try (exfalso; omega))
          go_ret2
          refine ⟨_, by rw [HP.it]; rfl, ⟨.inr ?_⟩, ⟨(K2.it.trans ((KW.it w4 k4.it).alloc _)).next k5.it (fun b hb hlt => by have := owns_base o4.it b hb; have := K2.it.size; omega)⟩⟩
          rw [HP.it]
          have hh := owns_mono o5.it K2.it.size
          rw [flatT_snoc, List.length_append]
          rw [List.nil_append, Nat.zero_add] at hh
          exact hh
      · have q5 : (t.k == 5) = false := by simp; omega
        have q6 : (t.k == 6) = true := by simpa using h5
        clear h1 h5
        by_cases hat : fndI L t.k t.s < 0
        · go_wp2_with (first
            | (at_builtin; refine wpList_appendR rfl (.tmp 38) (.tmp 40) 26 rfl 30 zT 3 16 Tryd.underlying26 infoT rfl (by decide) w4 ((Keeps.refl _ _).alloc _) w2.heap.size _ _ _ o4.it _ 1 (tcells t) (readsK_new _ _ (tcells t)) (tcells_one t) (by omega) (by unfold maxLen; omega) (KW.it w4 k4.it).size rfl rfl ?_; intro v5 w5 o5 k5 b5; obtain ⟨h0, h1, h2, hv5⟩ := owns_shapeK o5.it; subst hv5)
            | (at_builtin; refine wpList_appendR rfl (.tmp 35) (.tmp 36) 26 rfl 30 zT 3 16 Tryd.underlying26 infoT rfl (by decide) _ (Keeps.refl _ _) w2.heap.size _ _ _ (lit0 w2 w2.heap.size (Nat.le_refl _)) _ L.length _ R3.it (flatT_one _) (by omega) (by unfold maxLen; omega) K3.it.size rfl rfl ?_; intro v4 w4 o4 k4 b4; obtain ⟨g0, g1, g2, hv4⟩ := owns_shapeK o4.it; subst hv4; obtain ⟨y0, y1, y2⟩ := TB.of (C2.it.later (KW.it w4 k4.it) (fun x => x)))
            | fail)
          all_goals (try (exfalso; omega))
          go_ret2
          refine ⟨_, by rw [HP.it]; rfl, ⟨.inr ?_⟩, ⟨(K2.it.trans ((KW.it w4 k4.it).alloc _)).next k5.it (fun b hb hlt => by have := owns_base o4.it b hb; have := K2.it.size; omega)⟩⟩
          rw [HP.it]
          have hh := owns_mono o5.it K2.it.size
          rw [flatT_snoc, List.length_append]
          rw [List.nil_append, Nat.zero_add] at hh
          exact hh
        · go_wp2_with (first
            | (at_builtin; refine wpList_appendR rfl (.tmp 38) (.tmp 40) 26 rfl 30 zT 3 16 Tryd.underlying26 infoT rfl (by decide) w4 ((Keeps.refl _ _).alloc _) w2.heap.size _ _ _ o4.it _ 1 (tcells t) (readsK_new _ _ (tcells t)) (tcells_one t) (by omega) (by unfold maxLen; omega) (KW.it w4 k4.it).size rfl rfl ?_; intro v5 w5 o5 k5 b5; obtain ⟨h0, h1, h2, hv5⟩ := owns_shapeK o5.it; subst hv5)
            | (at_builtin; refine wpList_appendR rfl (.tmp 35) (.tmp 36) 26 rfl 30 zT 3 16 Tryd.underlying26 infoT rfl (by decide) _ (Keeps.refl _ _) w2.heap.size _ _ _ (lit0 w2 w2.heap.size (Nat.le_refl _)) _ L.length _ R3.it (flatT_one _) (by omega) (by unfold maxLen; omega) K3.it.size rfl rfl ?_; intro v4 w4 o4 k4 b4; obtain ⟨g0, g1, g2, hv4⟩ := owns_shapeK o4.it; subst hv4; obtain ⟨y0, y1, y2⟩ := TB.of (C2.it.later (KW.it w4 k4.it) (fun x => x)))
            | fail)
          all_goals (try (exfalso; omega))
          go_ret2
          refine ⟨_, by rw [HP.it]; rfl, ⟨.inr ?_⟩, ⟨(K2.it.trans ((KW.it w4 k4.it).alloc _)).next k5.it (fun b hb hlt => by have := owns_base o4.it b hb; have := K2.it.size; omega)⟩⟩
          rw [HP.it]
          have hh := owns_mono o5.it K2.it.size
          rw [flatT_snoc, List.length_append]
          rw [List.nil_append, Nat.zero_add] at hh
          exact hh
    · have q5 : (t.k == 5) = false := by unfold Single at hs; simp; omega
      have q6 : (t.k == 6) = false := by unfold Single at hs; simp; omega
      obtain ⟨hi, _⟩ := List.getElem?_eq_some_iff.1 hLi
      have i1 : ¬ ((i : Int) < 0) := by omega
      have i2 : (i : Int) < L.length := by omega
      have i3 : (0 : Int) ≤ i := by omega
      obtain ⟨g, o, rfl, a0, a1, a2⟩ := HA.it i u hLi
      have c2 : w2.cell? ⟨g, o + i * 3 + 2, none⟩ = some (.int .u32 u.v) := by rw [World.cell?_of_block (K2.it.block _ (World.block_lt_of_cell? w _ a2) (fun x => x))]; exact a2
      have huv := (HW.it u (List.mem_of_getElem? hLi)).v1
      rw [hf]
      clear hf a0 a1 a2
      rcases hp with ⟨h3, hp⟩ | ⟨h3, ho, hp⟩ | ⟨h3, ho, hp⟩
      · have HP := Aside.mk hp
        have q3 : (t.k != 3) = true := by simpa using h3
        clear hp h3
        go_wp2
        go_ret2
        refine ⟨_, by rw [HP.it]; rfl, ⟨.inl ⟨rfl, by rw [HP.it]⟩⟩, K2⟩
      · have HP := Aside.mk hp
        have q3 : (t.k != 3) = false := by simpa using h3
        have ho' : (4294967295 : Int) < (u.v : Int) + t.v := by omega
        clear hp h3 ho
        go_wp2_with fail
        go_region
        go_wp2
        go_ret2
        refine ⟨_, by rw [HP.it]; rfl, ⟨.inl ⟨rfl, by rw [HP.it]⟩⟩, ⟨K2.it.drew⟩⟩
      · have HP := Aside.mk hp
        have q3 : (t.k != 3) = false := by simpa using h3
        have ho' : ¬ (4294967295 : Int) < (u.v : Int) + t.v := by omega
        clear hp h3 ho
        have ho2 : (u.v : Int) + t.v ≤ 4294967295 := by omega
        have R4 : Aside (ReadsK 3 (w2.drew.alloc (.cells #[] 30)) (.slice (some ⟨g, o, none⟩) L.length ca) L.length (flatT L)) := ⟨HV.it.quiet (K2.it.drew.alloc _)⟩
        have hLp : 0 < L.length := by omega
        go_upto_region 11 with fail
        go_region
        go_upto_region 15 with (first
          | (at_builtin; refine wpList_appendR rfl (.tmp 58) (.tmp 59) 26 rfl 30 zT 3 16 Tryd.underlying26 infoT rfl (by decide) _ (Keeps.refl _ _) w2.heap.size _ _ _ (lit0 w2.drew w2.heap.size (Nat.le_refl _)) _ L.length _ R4.it (flatT_one _) (by omega) (by unfold maxLen; omega) K3.it.size rfl rfl ?_; intro v4 w4 o4 k4 b4; obtain ⟨gg, gc, hv4⟩ := owns_some o4.it (by omega); subst hv4)
          | fail)
        have HLI := Aside.mk hLi
        have o4' := o4.it
        rw [List.nil_append, Nat.zero_add] at o4'
        have O4 := Aside.mk o4'
        have c4 : w4.cell? ⟨gg, i * 3 + 2, none⟩ = some (.int .u32 u.v) := by
          obtain ⟨_, a, c, he, _, _, _, hc⟩ := owns_readsK o4'
          obtain ⟨g', o', ha, hcell⟩ := hc (i * 3 + 2) (.int .u32 u.v) (by rw [flatT_at L i u hLi 2 (by decide)]; rfl)
          injection he with he _ _
          rw [ha] at he
          injection he with he
          injection he with e1 e2
          subst e1 e2
          rw [Nat.zero_add] at hcell
          exact hcell
        have f4 := owns_frozen o4' (i * 3 + 2)
        have KX : Aside (Keeps Nowhere w2 w4) := ⟨(((Keeps.refl Nowhere w2).drew.alloc _)).next k4.it (fun b hb hlt => by
          have : w2.heap.size = b := by simpa [Value.ownBlock] using hb
          omega)⟩
        have hgb : Aside (w2.heap.size ≤ gg) := ⟨owns_base o4' gg rfl⟩
        clear o4' hLi o4 k4 b4 R3 R4 KW K3
        go_wp2
        all_goals (try (exfalso; omega))
        go_ret2
        refine ⟨_, by rw [HP.it]; rfl, ⟨.inr ?_⟩, ⟨((K2.it.trans KX.it).next (S' := fun k => k = gg) ((Keeps.refl _ _).setCell _ _ (fun _ => rfl)) (fun b hb hlt => by have := hgb.it; have := K2.it.size; omega))⟩⟩
        rw [HP.it, flatT_set L i u _ HLI.it, List.length_set]
        have hh := owns_setCell O4.it (i * 3 + 2) (by omega) (.int .u32 ((u.v : Int) + t.v))
        rw [Int.natCast_add]
        exact owns_mono hh K2.it.size
  · have zn : ((mayT t : Int) != 0) = true := by simpa using hm
    have HP := Aside.mk (putL_bad (l := L) hm)
    clear hm
    go_wp2
    go_ret2
    refine ⟨_, ?_, ⟨.inl ⟨rfl, by rw [HP.it]⟩⟩, K1⟩
    rw [HP.it]
    rfl
end Go.Proofs.YtialmmobkmdfpaaDoor
