/-
  package lane: Put, Next, Len
-/
import Derived.Test.YtnohcbdnhpaafaaGreatDoorLnB
namespace Go.Proofs.YtnohcbdnhpaafaaGreatDoor
open Go.RowKit

variable {A : Nat → Addr} {w w' w0 : World} {own own' : Nat → Nat} {i p fp mb m : Nat} {I : Nat → Prop} {F : Int → Nat → Option Nat} {Z : Zs}

/-- what Put leaves: the boxes' tickets are the document's list -/
structure LeftL (own : Nat → Nat) (i : Nat) (w : World) (p : Nat) (L : List Tk) (m : Nat) (w' : World) : Prop where
  it : ∃ own' Z', LnO own' i w' p Z' m ∧ Z'.map (·.2) = L ∧ Sn (In4 i) own w own' w'

theorem putL_bad {l : List Tk} {t : Tk} (h : mayT t ≠ 0) : putL l t = (l, mayT t) := by simp [putL, h]

theorem put_nil (t : Tk) (hs : Sents 161 codeVars A w) :
    Calls Tryz.prog 42 #[.pointer none, tkv t.k t.s t.v] w fun e w' => ∃ x, e = .returned x ∧ Hid (Coded A x 1) ∧ Keeps Nowhere w w' := by
  obtain ⟨W0, hW0⟩ : ∃ W0, W0 = w.alloc (tbox t.k t.s t.v) := ⟨_, rfl⟩
  have K0 : Aside (Keeps Nowhere w W0) := ⟨by rw [hW0]; exact (Keeps.refl _ _).alloc _⟩
  have hc := (hs.later K0.it.bel).cell 0 2 rfl
  clear hs
  go_enter Tryz.func42, Tryz.ntmps42
  go_upto_region 1 with fail
  rw [← hW0]
  clear hW0
  go_wp2
  go_ret
  exact ⟨_, rfl, hide (Coded.mk 0 1 (by decide) (by decide) rfl), K0.it⟩
theorem find_holds (h : Holds1 F Z) (hz : ZOk Z) (t : Tk) (hw : t.Wide) (h1 : Single t.k) : (F t.k t.s = none ∧ (Z.map (·.2)).find? (isT t.k t.s) = none) ∨ ∃ b u, F t.k t.s = some b ∧ (b, u) ∈ Z ∧ u.k = t.k ∧ u.s = t.s ∧ (Z.map (·.2)).find? (isT t.k t.s) = some u := by
  cases hf : F t.k t.s with
  | none =>
    refine .inl ⟨rfl, ?_⟩
    rw [List.find?_eq_none]
    intro u hu
    obtain ⟨x, hx, rfl⟩ := List.mem_map.1 hu
    intro e
    obtain ⟨e1, e2⟩ := isT_iff.1 e
    have := (h _ _ hw.wd x.1).2 ⟨h1, x.2, hx, e1, e2⟩
    rw [hf] at this
    cases this
  | some b =>
    obtain ⟨_, u, hu, e1, e2⟩ := (h _ _ hw.wd b).1 hf
    refine .inr ⟨b, u, rfl, hu, e1, e2, ?_⟩
    cases hg : (Z.map (·.2)).find? (isT t.k t.s) with
    | none =>
      rw [List.find?_eq_none] at hg
      exact absurd (isT_iff.2 ⟨e1, e2⟩) (hg u (List.mem_map.2 ⟨_, hu, rfl⟩))
    | some u' =>
      have hp := List.find?_some hg
      obtain ⟨x, hx, rfl⟩ := List.mem_map.1 (List.mem_of_find?_eq_some hg)
      obtain ⟨a1, a2⟩ := isT_iff.1 hp
      have := uniq_eq hz.uniq hx hu (a1.trans e1.symm) (a2.trans e2.symm) (a1 ▸ h1)
      rw [this]
theorem grow_snd (hz : ZOk Z) {b n : Nat} {u : Tk} (hu : (b, u) ∈ Z) (hs : Single u.k) : (grow Z b n).map (·.2) = (Z.map (·.2)).map fun x => if isT u.k u.s x then { x with v := n } else x := by
  unfold grow
  rw [List.map_map, List.map_map]
  refine List.map_congr_left fun x hx => ?_
  simp only [Function.comp]
  by_cases e : x.1 = b
  · have := box_eq hz.nodup hx hu e
    subst this
    rw [if_pos rfl, if_pos (isT_iff.2 ⟨rfl, rfl⟩)]
  · rw [if_neg e, if_neg]
    intro h
    obtain ⟨a1, a2⟩ := isT_iff.1 h
    have := uniq_eq hz.uniq hx hu a1 a2 (a1 ▸ hs)
    rw [this] at e
    exact e rfl
theorem Tks.fresh {j : Nat} (h : Tks own j w Z) : w.heap.size ∉ Z.map (·.1) := by
  intro hc
  obtain ⟨x, hx, e⟩ := List.mem_map.1 hc
  have := (h x hx).1.lt
  omega
theorem Tks.grow {j b n : Nat} {u : Tk} (hz : ZOk Z) (hu : (b, u) ∈ Z) (h : Tks own j w Z) (hb : Cells w' b 35 (tcells { u with v := n })) (hk : Keeps (fun x => x = b) w w') : Tks own j w' (grow Z b n) := by
  intro x hx
  obtain ⟨y, hy, rfl⟩ := List.mem_map.1 hx
  by_cases e : y.1 = b
  · have := box_eq hz.nodup hy hu e
    subst this
    rw [if_pos rfl]
    exact ⟨hb, (h _ hy).2⟩
  · rw [if_neg e]
    exact ⟨(h _ hy).1.later hk e, (h _ hy).2⟩

theorem FifoM.more {q : List (Nat × Nat)} {j rt rw : Nat} (h : Fticket.FifoM own j w fp rt rw q m) : Fticket.FifoM own j w fp rt rw q (m + 1) := by
  obtain ⟨v, f, g, h1, h2, h3⟩ := h
  exact ⟨v, f, g, h1, ⟨h2.1, by omega⟩, h3⟩
theorem LnI.more (h : LnI own i w p fp mb F Z m) : LnI own i w p fp mb F Z (m + 1) := { h with fifo := FifoM.more h.fifo, map := h.map.mono (Nat.le_succ _) }
theorem may3 {t : Tk} (h : mayT t = 0) (h3 : t.k = 3) : 0 < t.v := by
  unfold mayT at h
  rw [if_neg (by omega)] at h
  split at h
  · cases h
  · split at h
    · cases h
    · omega
set_option maxHeartbeats 1000000 in
theorem put_at (h : LnO own i w p Z m) (h9 : St11 A w) (t : Tk) (ht : t.Wide) (hm : m < 8796093022208) :
    Calls Tryz.prog 42 #[ptr p, tkv t.k t.s t.v] w fun e w' => ∃ x, e = .returned x ∧ Hid (Coded A x (putL (Z.map (·.2)) t).2) ∧ Aside (LeftL own i w p (putL (Z.map (·.2)) t).1 (m + 1) w') := by
  obtain ⟨fp, mb, F, h⟩ := h
  obtain ⟨W0, hW0⟩ : ∃ W0, W0 = w.alloc (tbox t.k t.s t.v) := ⟨_, rfl⟩
  have K0 : Aside (Keeps Nowhere w W0) := ⟨by rw [hW0]; exact (Keeps.refl _ _).alloc _⟩
  have C0 : Aside (Cells W0 w.heap.size 35 (tcells t)) := ⟨by rw [hW0]; exact tbox_new _ _ _ _⟩
  have S0 : Aside (Sn (In4 i) own w (give own w.heap.size (i + 3)) W0) := ⟨Sn.quiet K0.it _⟩
  have H0 : Aside (LnI (give own w.heap.size (i + 3)) i W0 p fp mb F Z m) := ⟨h.sn (I := fun _ => False) (Sn.quiet K0.it _) (fun _ _ x => x)⟩
  have HF := Aside.mk h.tks.fresh
  have G0 := Aside.mk (h9.quiet K0.it)
  have CK := Aside.mk (fun W (k : Keeps Nowhere W0 W) => checkT_any (A := A) t ht (G0.it.quiet k))
  have ST := Aside.mk (fun W (k : Keeps Nowhere W0 W) (hmay : mayT t = 0) (h1 : Single t.k → F t.k t.s = none) => stand_at (H0.it.quiet k) (G0.it.quiet k).tab w.heap.size t ⟨C0.it.later k (fun x => x), give_new (Nat.le_refl _)⟩ ht hmay HF.it h1 hm)
  obtain ⟨b0, b1, b2⟩ := TB.of C0.it
  have HW := Aside.mk ht
  clear h9 h ht hm
  go_enter Tryz.func42, Tryz.ntmps42
  go_upto_region 1 with fail
  rw [← hW0]
  clear hW0
  go_upto_region 4 with (first | (go_at_call 67; refine (CK.it W0 (Keeps.refl _ _)).mono ?_; rintro e w1 ⟨x, rfl, hx, k1⟩) | fail)
  have K1 := Aside.mk k1
  clear k1 b0 b1 b2
  by_cases hmay : mayT t = 0
  · rw [hmay] at hx
    obtain rfl := Coded.zero hx
    obtain ⟨b0, b1, b2⟩ := TB.of (C0.it.later K1.it (fun x => x))
    have p1 : w1.cell? ⟨p, 1, none⟩ = some (.map (some mb)) := by rw [(H0.it.quiet K1.it).box.1.cell]; rfl
    have LK := (H0.it.quiet (K1.it.drew)).map.look HW.it.wd
    have HM := Aside.mk hmay
    clear hx hmay
    by_cases hsg : Single t.k
    · rcases find_holds H0.it.holds H0.it.ok t HW.it hsg with ⟨e1, e2⟩ | ⟨b, u, e1, hu, ek, es, e2⟩
      · have HP : Aside (putL (Z.map (·.2)) t = (Z.map (·.2) ++ [t], 0)) := ⟨by simp [putL, HM.it, hsg, e2]⟩
        rw [e1, vF] at LK
        have E1 := Aside.mk e1
        clear e1 e2 hsg
        go_wp2
        go_region
        go_wp2_with (first | (go_at_call 69; refine (ST.it w1.drew K1.it.drew HM.it (fun _ => E1.it)).mono ?_; rintro e w2 ⟨own', rfl, r2⟩) | fail)
        go_ret
        rw [HP.it]
        exact ⟨_, rfl, hide Coded.none, ⟨⟨own', _, r2.it.1, by simp, S0.it.trans ((Sn.same K1.it.drew).trans r2.it.2)⟩⟩⟩
      · have L0 := H0.it.ok.may _ hu
        by_cases h3 : t.k = 3
        · have B1 : Cells w1 b 35 (tcells u) := (H0.it.tks _ hu).1.later K1.it (fun x => x)
          by_cases ho : u.v + t.v ≤ 4294967295
          · have HP : Aside (putL (Z.map (·.2)) t = ((grow Z b (u.v + t.v)).map (·.2), 0)) := ⟨by
              rw [grow_snd H0.it.ok hu (ek ▸ hsg), ek, es]
              unfold putL
              rw [if_neg (by simp [HM.it]), if_neg (by simp [hsg]), e2]
              simp only
              rw [if_neg (by simp [h3]), if_neg (by omega)]⟩
            have AD := Aside.mk (addT_ok b u.k u.s u.v t.v (B1.drew) ho)
            have hv0 : Aside (0 < u.v + t.v) := ⟨by have := may3 HM.it h3; omega⟩
            rw [e1, vF] at LK
            rw [h3] at b0 LK
            have HO := Aside.mk ho
            have EU := Aside.mk (And.intro hu (ek.trans h3))
            have HB := Aside.mk (H0.it.tks _ hu).2
            clear e1 e2 hsg hu ek es h3 L0 B1 ho
            go_wp2
            go_region
            go_wp2_with (first | (go_at_call 70; refine AD.it.mono ?_; rintro e w2 ⟨rfl, c2, k2⟩) | fail)
            go_ret
            rw [HP.it]
            have s2 : Sn (fun k => k = i + 3) (give own w.heap.size (i + 3)) w1 (give own w.heap.size (i + 3)) w2 := ⟨fun _ _ => rfl, ((Keeps.refl _ _).drew.trans k2).mono (fun x e _ => by subst e; exact HB.it)⟩
            have h1 := H0.it.quiet K1.it
            refine ⟨_, rfl, hide Coded.none, ⟨⟨_, _, ⟨fp, mb, F, LnI.more ⟨h1.box.sn s2 (by omega), ?_, h1.map.later s2.keeps ?_, (s2.agree _ h1.map.lt).trans h1.mine, ?_, ?_, ?_⟩⟩, rfl, S0.it.trans ((Sn.same K1.it).trans (s2.mono (fun k e => ⟨by omega, by omega⟩)))⟩⟩⟩
            · have e : qz (grow Z b (u.v + t.v)) = qz Z := by
                have := congrArg (List.map (fun x : Nat => (x, 0))) (grow_fst Z b (u.v + t.v))
                simp only [List.map_map] at this
                exact this
              rw [e]
              exact FifoM.sn h1.fifo s2 (by omega)
            · show ¬ give own w.heap.size (i + 3) mb = i + 3
              rw [h1.mine]
              omega
            · exact Tks.grow h1.ok EU.it.1 h1.tks c2 ((Keeps.refl _ _).drew.trans k2)
            · exact zok_grow h1.ok EU.it.1 EU.it.2 hv0.it HO.it
            · exact holds_grow h1.holds _ _
          · have HP : Aside (putL (Z.map (·.2)) t = (Z.map (·.2), 4)) := ⟨by
              unfold putL
              rw [if_neg (by simp [HM.it]), if_neg (by simp [hsg]), e2]
              simp only
              rw [if_neg (by simp [h3]), if_pos (by omega)]⟩
            have AD := Aside.mk (addT_over b u.k u.s u.v t.v (B1.drew) L0.2.v1 ho (G0.it.quiet K1.it.drew).s)
            rw [e1, vF] at LK
            rw [h3] at b0 LK
            clear e1 e2 hsg hu ek es h3 L0 B1 ho
            go_wp2
            go_region
            go_wp2_with (first | (go_at_call 70; refine AD.it.mono ?_; rintro e w2 ⟨x, rfl, hx, k2⟩) | fail)
            go_ret
            rw [HP.it]
            have k3 : Keeps Nowhere W0 w2 := K1.it.drew.trans k2
            exact ⟨_, rfl, hx, ⟨⟨_, Z, ⟨fp, mb, F, (H0.it.quiet k3).more⟩, rfl, S0.it.trans (Sn.same k3)⟩⟩⟩
        · have HP : Aside (putL (Z.map (·.2)) t = (Z.map (·.2), 8)) := ⟨by
            unfold putL
            rw [if_neg (by simp [HM.it]), if_neg (by simp [hsg]), e2]
            simp only
            rw [if_pos (by simp [h3])]⟩
          have h3' : (t.k == 3) = false := by simpa using h3
          have e8 := (G0.it.quiet K1.it.drew).s.cell 7 3 rfl
          rw [e1, vF] at LK
          clear e1 e2 hsg hu ek es h3 L0
          go_wp2
          go_region
          go_wp2
          go_ret
          rw [HP.it]
          have k3 : Keeps Nowhere W0 w1.drew := K1.it.drew
          exact ⟨_, rfl, hide (Coded.mk 7 8 (by decide) (by decide) rfl), ⟨⟨_, Z, ⟨fp, mb, F, (H0.it.quiet k3).more⟩, rfl, S0.it.trans (Sn.same k3)⟩⟩⟩
    · have e1 : F t.k t.s = none := by
        cases hf : F t.k t.s with
        | none => rfl
        | some b => exact absurd ((H0.it.holds _ _ HW.it.wd b).1 hf).1 hsg
      have HP : Aside (putL (Z.map (·.2)) t = (Z.map (·.2) ++ [t], 0)) := ⟨by simp [putL, HM.it, hsg]⟩
      rw [e1, vF] at LK
      have E1 := Aside.mk e1
      clear e1 hsg
      go_wp2
      go_region
      go_wp2_with (first | (go_at_call 69; refine (ST.it w1.drew K1.it.drew HM.it (fun _ => E1.it)).mono ?_; rintro e w2 ⟨own', rfl, r2⟩) | fail)
      go_ret
      rw [HP.it]
      exact ⟨_, rfl, hide Coded.none, ⟨⟨own', _, r2.it.1, by simp, S0.it.trans ((Sn.same K1.it.drew).trans r2.it.2)⟩⟩⟩
  · have HP := Aside.mk (putL_bad (l := Z.map (·.2)) hmay)
    obtain ⟨a, rfl⟩ := Coded.pos hx (by omega)
    clear hmay
    go_wp2
    go_ret
    rw [HP.it]
    exact ⟨_, rfl, hx, ⟨⟨_, Z, ⟨fp, mb, F, (H0.it.quiet K1.it).more⟩, rfl, S0.it.trans (Sn.same K1.it)⟩⟩⟩
end Go.Proofs.YtnohcbdnhpaafaaGreatDoor
