/-
  package out: takeOfFirst, Take
-/
import Derived.Test.YtfphoaphdfhhiaaDoorOutC
import Derived.Test.YtfphoaphdfhhiaaDoorAppO
namespace Go.Proofs.YtfphoaphdfhhiaaDoor
open Go.RowKit

section
variable {own own' : Nat → Nat} {i j : Nat} {w w' : World} {p qp tot : Nat} {q : List (Nat × Nat)} {rs : List (List Int)} {r : List Int} {I : Nat → Prop}

/-- bytes don't lie in a frame's own box -/
theorem bytes_ne {b' g : Nat} {v x : Value} (h : Rd w v r) (h1 : r ≠ []) (hc : Cells w b' 68 [x]) (hx : ∃ a l c, x = .slice a l c) (hg : v.ownBlock = some g) : g ≠ b' := by
  rintro rfl
  obtain ⟨⟨a, c, rfl, hl, hcell⟩, _⟩ := h
  obtain ⟨y, ys, rfl⟩ : ∃ y ys, r = y :: ys := by
    cases r with
    | nil => exact absurd rfl h1
    | cons y ys => exact ⟨_, _, rfl⟩
  obtain ⟨ad, ha, _, hce⟩ := hcell 0 (.int .u8 y) rfl
  subst ha
  simp only [Value.ownBlock, Option.some.injEq] at hg
  subst hg
  obtain ⟨x1, x2, x3, rfl⟩ := hx
  unfold Cells at hc
  have hab : (ad.add 0).block = ad.block := add_block ad 0
  unfold World.cell? at hce
  rw [hab, hc] at hce
  simp only at hce
  split at hce
  · cases hce
  · cases hoff : (ad.add 0).off with
    | zero => rw [hoff] at hce; simp at hce
    | succ n => rw [hoff] at hce; simp at hce
/-- a cell of a frame's own box is set: the other frames stay -/
theorem RdO.set {b' : Nat} {v x v' : Value} (h : RdO own j w v r) (h1 : r ≠ []) (hc : Cells w b' 68 [x]) (hx : ∃ a l c, x = .slice a l c) : RdO own j (w.setCell ⟨b', 0, none⟩ v') v r :=
  ⟨h.1.keep (S := fun k => k = b') ((Keeps.refl _ _).setCell _ _ (fun _ => rfl)) (fun _ hg => bytes_ne h.1 h1 hc hx hg), fun g hg => ⟨by simpa [World.setCell] using (h.2 g hg).1, (h.2 g hg).2⟩⟩
theorem OneL.set {b n b' : Nat} (h : OneL own j w b n r) (hne : b ≠ b') {x v' : Value} (hc : Cells w b' 68 [x]) (hx : ∃ a l c, x = .slice a l c) : OneL own j (w.setCell ⟨b', 0, none⟩ v') b n r := by
  obtain ⟨h1, h2, v, h3, h4⟩ := h
  exact ⟨h1, h2, v, ⟨h3.1.setOther _ _ hne, h3.2⟩, h4.set h1 hc hx⟩
theorem Whole.set {b' : Nat} (h : Whole own j w q rs) (hne : b' ∉ q.map (·.1)) {x v' : Value} (hc : Cells w b' 68 [x]) (hx : ∃ a l c, x = .slice a l c) : Whole own j (w.setCell ⟨b', 0, none⟩ v') q rs := by
  induction q generalizing rs with
  | nil => cases rs <;> trivial
  | cons y q ih =>
    cases rs with
    | nil => exact h
    | cons r rs =>
      simp only [List.map_cons, List.mem_cons, not_or] at hne
      exact ⟨h.1.set (fun e => hne.1 e.symm) hc hx, h.2.1, ih h.2.2 hne.2⟩
theorem own_set {j b : Nat} (v : Value) (hb : own b = j) : Sn (fun k => k = j) own w own (w.setCell ⟨b, 0, none⟩ v) := ⟨fun _ _ => rfl, (Keeps.refl _ _).setCell _ _ (fun _ => hb)⟩

theorem part_end {xb xn g o R c m : Nat} (hij : i ≠ j) (H : BufI own i j w p qp ((xb, xn) :: q) (r :: rs) tot) (hc : CellsO own j w xb 68 [.slice (some ⟨g, o, none⟩) R c]) (hv : RdO own j w (.slice (some ⟨g, o, none⟩) R c) r) (hR : R = r.length) (hrn : R ≤ xn)
    (hr0 : r ≠ []) (hcell : ∀ k u, (bv r)[k]? = some u → w.cell? ⟨g, o + k, none⟩ = some u) (hm : m < R) (hRc : R ≤ c) (u : Value) :
    RdO own j (w.setCell ⟨xb, 0, none⟩ u) (.slice (some ⟨g, o, none⟩) m c) (r.take m) ∧ (u = .slice (some ⟨g, o + m, none⟩) (R - m) (c - m) → BufI own i j (w.setCell ⟨xb, 0, none⟩ u) p qp ((xb, xn) :: q) (r.drop m :: rs) tot) := by
  have hx : ∃ a l c', (Value.slice (some ⟨g, o, none⟩) R c) = .slice a l c' := ⟨_, _, _, rfl⟩
  have hgb : g ≠ xb := bytes_ne hv.1 hr0 hc.1 hx rfl
  have hcell' : ∀ k u', (bv r)[k]? = some u' → (w.setCell ⟨xb, 0, none⟩ u).cell? ⟨g, o + k, none⟩ = some u' := fun k u' hk => by
    rw [World.cell?_of_block (w := w) (Below.heap_setCell w ⟨xb, 0, none⟩ u g hgb)]; exact hcell k u' hk
  have hgo : ∀ g', (Value.slice (some ⟨g, o, none⟩) R c).ownBlock = some g' → g' < (w.setCell ⟨xb, 0, none⟩ u).heap.size ∧ own g' = j := fun g' hg => ⟨by simpa [World.setCell] using (hv.2 g' hg).1, (hv.2 g' hg).2⟩
  refine ⟨⟨rd_mk (by simp; omega) (by omega) (fun k u' hk => hcell' k u' ?_), hgo⟩, fun hu => ?_⟩
  · rw [bv_take, List.getElem?_take] at hk
    split at hk
    · exact hk
    · cases hk
  · have s1 : Sn (fun k => k = j) own w own (w.setCell ⟨xb, 0, none⟩ u) := own_set u hc.2
    have hnd := H.nodup
    simp only [List.map_cons, List.nodup_cons] at hnd
    refine ⟨⟨H.box.1.setOther _ _ (fun e => laid_ne_box hc.1 (e ▸ H.box.1) rfl), H.box.2⟩, Flaid.FifoO_sn H.fifo s1 hij, ⟨⟨fun e => ?_, by simp; omega, u, ⟨hc.1.setCell 0 u, hc.2⟩, ?_⟩, Whole.set H.laids.2 hnd.1 hc.1 hx⟩, H.nodup, H.tot⟩
    · have := congrArg List.length e
      simp only [List.length_drop, List.length_nil] at this
      omega
    · subst hu
      refine ⟨rd_mk (by simp; omega) (by omega) (fun k u' hk => ?_), hgo⟩
      rw [bv_drop, List.getElem?_drop] at hk
      rw [Nat.add_assoc]
      exact hcell' _ u' hk
set_option maxHeartbeats 1000000 in
theorem takeOf_part (hij : i ≠ j) (h : BufO own i j w p (r :: rs) tot) (m : Nat) (hm : 1 ≤ m) (hlt : m < r.length) :
    Calls Tryd.prog 19 #[ptr p, .int .i64 m] w fun e w' => ∃ x own', e = .returned x ∧ (∃ a c, x = .slice a m c) ∧ Aside (RdO own' j w' x (r.take m) ∧ BufO own' i j w' p (leftN (r :: rs) m) tot ∧ Sn (fun k => k = i ∨ k = j) own w own' w') := by
  obtain ⟨qp, q, h⟩ := h
  cases q with
  | nil => exact h.laids.elim
  | cons x q =>
    obtain ⟨⟨hr0, hrn, v, hv1, hv2⟩, hw⟩ := id h.laids
    obtain ⟨g, o, c, hv, hrc, hcell⟩ := hv2.1.at hr0
    subst hv
    have HD := Aside.mk (Flaid.head_o x h.fifo)
    obtain ⟨R, hR⟩ : ∃ R, Aside (R = r.length) := ⟨_, ⟨rfl⟩⟩
    rw [← hR.it] at hv1 hv2 hlt hrc hrn
    have H := Aside.mk h
    have HV1 := Aside.mk hv1
    have HV2 := Aside.mk hv2
    have HC := Aside.mk hcell
    have HN := Aside.mk hrn
    have HW := Aside.mk hw
    have H0 := Aside.mk hr0
    obtain ⟨xb, xn⟩ := x
    have i0 : (0 : Int) ≤ m := by omega
    have i1 : (m : Int) ≤ R := by omega
    have i1' : (m : Int) < R := by omega
    have i2 : (R : Int) ≤ c := by omega
    have i3 : (m : Int) ≤ c := by omega
    have hc63 : Aside (0 < R - m) := ⟨by omega⟩
    have hcm : ¬ c = m := by omega
    have hRm : ((R - m : Nat) : Int) ≠ 0 := by omega
    have HM := Aside.mk hm
    clear h hv1 hv2 hcell hrn hw hr0 hm
    go_enter Tryd.func19, Tryd.ntmps19
    have c0 : w.cell? ⟨p, 0, none⟩ = some (ptr qp) := by rw [H.it.box.1.cell]; rfl
    go_wp2_with (go_at_call 25; refine HD.it.mono ?_; rintro e w1 ⟨rfl, k1⟩; clear c0; have b1 : w1.cell? ⟨xb, 0, none⟩ = some (.slice (some ⟨g, o, none⟩) R c) := (by rw [(HV1.it.quiet k1.it).1.cell]; rfl); have fz := (HV1.it.quiet k1.it).1.frozen 0)
    go_ret
    obtain ⟨p1, p2⟩ := part_end (m := m) hij (H.it.quiet k1.it) (HV1.it.quiet k1.it) (HV2.it.sn (I := fun _ => False) (Sn.same k1.it) (fun x => x)) hR.it HN.it H0.it (fun k u hk => by rw [World.cell?_of_block (w := w) (k1.it.block g (World.block_lt_of_cell? w _ (HC.it k u hk)) (fun x => x))]; exact HC.it k u hk) (by omega) (by omega) (.slice (some ⟨g, o + m, none⟩) (R - m) (c - m))
    refine ⟨.slice (some ⟨g, o, none⟩) m c, own, rfl, ⟨_, _, rfl⟩, ⟨p1, ⟨qp, (xb, xn) :: q, ?_⟩, (Sn.same k1.it).trans ((own_set _ HV1.it.2).mono (fun _ e => .inr e))⟩⟩
    have h2 := p2 rfl
    rw [leftN_cons, if_neg (by have := hR.it; omega), show m - r.length = 0 from by have := hR.it; omega, leftN_zero rs (fun y hy => (Laids.len H.it.laids).2 y (List.mem_cons_of_mem _ hy))]
    exact h2
set_option maxHeartbeats 1000000 in
theorem takeOf_all (hij : i ≠ j) (h : BufO own i j w p (r :: rs) tot) (m : Nat) (hle : r.length ≤ m) (hlen : rs.length ≤ 4398046511103) :
    Calls Tryd.prog 19 #[ptr p, .int .i64 m] w fun e w' => ∃ x own', e = .returned x ∧ (∃ a c, x = .slice a r.length c) ∧ Aside (RdO own' j w' x r ∧ BufO own' i j w' p rs tot ∧ Sn (fun k => k = i ∨ k = j) own w own' w') := by
  obtain ⟨qp, q, h⟩ := h
  cases q with
  | nil => exact h.laids.elim
  | cons x q =>
    obtain ⟨⟨hr0, hrn, v, hv1, hv2⟩, hw⟩ := id h.laids
    obtain ⟨g, o, c, hv, hrc, hcell⟩ := hv2.1.at hr0
    subst hv
    have HD := Aside.mk (Flaid.head_o x h.fifo)
    have HQ : Aside (q.length ≤ 4398046511103) := ⟨by rw [(Whole.sum hw).2.1]; exact hlen⟩
    have hj : ¬ j = i := fun e => hij e.symm
    have hnd := h.nodup
    simp only [List.map_cons, List.nodup_cons] at hnd
    have END : Aside (∀ w1 u, Keeps Nowhere w w1 → Calls Tryd.prog 30 #[ptr qp] (w1.setCell ⟨x.1, 0, none⟩ u) fun e w' => ∃ own', e = .returned (.tuple #[ptr x.1, .int .i64 x.2, .bool true]) ∧
        Aside (RdO own' j w' (.slice (some ⟨g, o, none⟩) r.length c) r ∧ BufO own' i j w' p rs tot ∧ Sn (fun k => k = i ∨ k = j) own w own' w')) := by
      refine ⟨fun w1 u k1 => ?_⟩
      have h1 := h.quiet k1
      have hc1 := hv1.quiet k1
      have s1 : Sn (fun k => k = j) own w1 own (w1.setCell ⟨x.1, 0, none⟩ u) := own_set u hv1.2
      refine (Flaid.get_o x (Flaid.FifoO_sn h1.fifo s1 hij) HQ.it).mono ?_
      rintro e w' ⟨rfl, f3, k3⟩
      have s3 := Sn.by k3.it i
      have hx : ∃ a l c', (Value.slice (some ⟨g, o, none⟩) r.length c) = .slice a l c' := ⟨_, _, _, rfl⟩
      refine ⟨_, rfl, ⟨?_, ⟨qp, q, ⟨?_, f3.it, ?_, hnd.2, ?_⟩⟩, (Sn.same k1).trans ((s1.mono (fun _ e => .inr e)).trans (s3.mono (fun _ e => .inl e)))⟩⟩
      · exact ((hv2.sn (I := fun _ => False) (Sn.same k1) (fun x => x)).set hr0 hc1.1 hx).sn s3 hj
      · exact CellsO.sn ⟨h1.box.1.setOther _ _ (fun e => laid_ne_box hc1.1 (e ▸ h1.box.1) rfl), h1.box.2⟩ s3 hj
      · exact (Whole.sn (Whole.set h1.laids.2 hnd.1 hc1.1 hx) s3 hj).laids
      · have := h.tot
        rw [Flaid.sumW_cons] at this
        omega
    have H := Aside.mk h
    have HV1 := Aside.mk hv1
    obtain ⟨R, hR⟩ : ∃ R, Aside (R = r.length) := ⟨_, ⟨rfl⟩⟩
    rw [← hR.it] at HV1 END hle hrc ⊢
    obtain ⟨xb, xn⟩ := x
    have i1 : (R : Int) ≤ m := by omega
    have i2 : (R : Int) ≤ c := by omega
    have i3 : (0 : Int) ≤ R := by omega
    have c0 : w.cell? ⟨p, 0, none⟩ = some (ptr qp) := by rw [H.it.box.1.cell]; rfl
    have BX := Aside.mk H.it.box
    have hpx : xb ≠ p := laid_ne_box HV1.it.1 BX.it.1
    have hpx' : p ≠ xb := fun e => hpx e.symm
    clear h hv1 hv2 hcell hrn hw hr0 hlen hnd H HQ
    rcases Nat.eq_or_lt_of_le hrc with hcR | hcR
    · subst hcR
      clear hrc i2 hle
      go_enter Tryd.func19, Tryd.ntmps19
      go_wp2_with (first
        | (go_at_call 25; refine HD.it.mono ?_; rintro e w1 ⟨rfl, k1⟩; clear c0; have d0 : w1.cell? ⟨p, 0, none⟩ = some (ptr qp) := (by rw [(BX.it.quiet k1.it).1.cell]; rfl); have b1 : w1.cell? ⟨xb, 0, none⟩ = some (.slice (some ⟨g, o, none⟩) R R) := (by rw [(HV1.it.quiet k1.it).1.cell]; rfl); have fz := (HV1.it.quiet k1.it).1.frozen 0)
        | (go_at_call 30; refine (END.it _ _ k1.it).mono ?_; rintro e w3 ⟨own', rfl, X⟩)
        | fail)
      · go_ret
        exact ⟨_, rfl, ⟨_, _, rfl⟩, own', X⟩
      · obtain rfl : m = R := by omega
        go_ret
        exact ⟨_, rfl, ⟨_, _, rfl⟩, own', X⟩
    · have hcR' : ¬ c = R := by omega
      clear hrc hle
      go_enter Tryd.func19, Tryd.ntmps19
      go_wp2_with (first
        | (go_at_call 25; refine HD.it.mono ?_; rintro e w1 ⟨rfl, k1⟩; clear c0; have d0 : w1.cell? ⟨p, 0, none⟩ = some (ptr qp) := (by rw [(BX.it.quiet k1.it).1.cell]; rfl); have b1 : w1.cell? ⟨xb, 0, none⟩ = some (.slice (some ⟨g, o, none⟩) R c) := (by rw [(HV1.it.quiet k1.it).1.cell]; rfl); have fz := (HV1.it.quiet k1.it).1.frozen 0)
        | (go_at_call 30; refine (END.it _ _ k1.it).mono ?_; rintro e w3 ⟨own', rfl, X⟩)
        | fail)
      · go_ret
        exact ⟨_, rfl, ⟨_, _, rfl⟩, own', X⟩
      · obtain rfl : m = R := by omega
        go_ret
        exact ⟨_, rfl, ⟨_, _, rfl⟩, own', X⟩
theorem takeOf (hij : i ≠ j) (h : BufO own i j w p (r :: rs) tot) (m : Nat) (hm : 1 ≤ m) (hlen : rs.length ≤ 4398046511103) :
    Calls Tryd.prog 19 #[ptr p, .int .i64 m] w fun e w' => ∃ x own' k, e = .returned x ∧ (1 ≤ k ∧ k ≤ m ∧ k ≤ r.length) ∧ Aside (RdO own' j w' x ((r :: rs).flatten.take k) ∧ BufO own' i j w' p (leftN (r :: rs) k) tot ∧ Sn (fun k => k = i ∨ k = j) own w own' w') := by
  have hr := List.length_pos_iff.2 (h.ne r List.mem_cons_self)
  rcases Nat.lt_or_ge m r.length with hl | hl
  · refine (takeOf_part hij h m hm hl).mono ?_
    rintro e w' ⟨x, own', he, _, X⟩
    refine ⟨x, own', m, he, ⟨hm, Nat.le_refl _, Nat.le_of_lt hl⟩, ⟨?_, X.it.2⟩⟩
    rw [List.flatten_cons, List.take_append_of_le_length (by omega)]
    exact X.it.1
  · have hz : leftN (r :: rs) r.length = rs := by rw [leftN_cons, if_pos (Nat.le_refl _), Nat.sub_self, leftN_zero rs (fun y hy => h.ne y (List.mem_cons_of_mem _ hy))]; rfl
    refine (takeOf_all hij h m hl hlen).mono ?_
    rintro e w' ⟨x, own', he, _, X⟩
    refine ⟨x, own', r.length, he, ⟨by omega, hl, Nat.le_refl _⟩, ⟨?_, by rw [hz]; exact X.it.2.1, X.it.2.2⟩⟩
    rw [List.flatten_cons, List.take_append_of_le_length (Nat.le_refl _), List.take_length]
    exact X.it.1
end
end Go.Proofs.YtfphoaphdfhhiaaDoor
