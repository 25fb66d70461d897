/-
  law 12: step
-/
import Derived.Test.YtekokdfajbajoaaRbDint
import Derived.Test.YtekokdfajbajoaaRbLint
import Derived.Test.YtekokdfajbajoaaRf12b
namespace Go.Proofs.Ytekokdfajbajoaa
open Go.RowKit

variable {w w' : World} {own own' : Nat → Nat} {i r : Nat} {ks ys zs : List Int} {v v' : Value} {I : Nat → Prop}

theorem RdI.keeps {S : Nat → Prop} (h : RdI w v ys) (hk : Keeps S w w') (hn : ∀ b, v.ownBlock = some b → ¬ S b) : RdI w' v ys := by
  obtain ⟨sa, sc, rfl, h1, h2, h3⟩ := h
  refine ⟨sa, sc, rfl, h1, h2, fun k z hz => ?_⟩
  obtain ⟨hb, sb, so, rfl, hc⟩ := h3 k z hz
  refine ⟨hb, sb, so, rfl, ?_⟩
  have hlt := World.block_lt_of_cell? w _ hc
  have e := hk.block sb hlt (hn sb rfl)
  unfold World.cell? at hc ⊢
  rw [e]
  exact hc
theorem RbO_ky (h : Rbint.RbO own i w r ks) : ∀ k ∈ ks, -9223372036854775808 ≤ k ∧ k ≤ 9223372036854775807 := by
  obtain ⟨mb, l, kf, pf, nf, h, _, _, _, rfl⟩ := h
  intro k hk
  obtain ⟨b, hb, rfl⟩ := List.mem_map.1 hk
  exact h.ky b hb
theorem row_rdI {e : TypeId} (h : RowAt w e v (ks.map (Value.int .i64))) (hl : ks.length ≤ maxLen) (hz : ∀ k ∈ ks, -9223372036854775808 ≤ k ∧ k ≤ 9223372036854775807) : RdI w v ks := by
  rcases h with ⟨rfl, e⟩ | ⟨g, rfl, hc⟩
  · obtain rfl : ks = [] := by simpa using e
    exact ⟨none, 0, rfl, Nat.le_refl _, Nat.zero_le _, fun k z hz => by simp at hz⟩
  · refine ⟨_, ks.length, by rw [List.length_map], Nat.le_refl _, hl, fun k z hk => ⟨hz z (List.mem_of_getElem? hk), g, 0, rfl, ?_⟩⟩
    rw [Nat.zero_add, hc.cell, List.getElem?_map, hk]
    rfl

/-- a robin with keys ks, the list v with numbers ys, by two owners -/
structure Rw (own : Nat → Nat) (i : Nat) (w : World) (r : Nat) (ks : List Int) (v : Value) (ys : List Int) : Prop where
  rb : Rbint.RbO own i w r ks
  li : RdI w v ys
  mine : ∀ b, v.ownBlock = some b → b < w.heap.size ∧ own b = i + 1
def In2 (i : Nat) : Nat → Prop := fun k => k = i ∨ k = i + 1

theorem Rw.sn (h : Rw own i w r ks v ys) (s : Sn I own w own' w') (h1 : ¬ I i) (h2 : ¬ I (i + 1)) : Rw own' i w' r ks v ys :=
  ⟨h.rb.sn s h1, h.li.keeps s.keeps (fun b hb x => h2 ((h.mine b hb).2 ▸ x)), fun b hb => ⟨Nat.lt_of_lt_of_le (h.mine b hb).1 s.keeps.size, (s.agree _ (h.mine b hb).1).trans (h.mine b hb).2⟩⟩
theorem Rw.quiet (h : Rw own i w r ks v ys) (k : Keeps Nowhere w w') : Rw own i w' r ks v ys := h.sn (I := fun _ => False) (Sn.same k) (fun x => x) (fun x => x)
theorem Rw.ref (h : Rw own i w r ks v ys) (k : Keeps Nowhere w w') (hl : LiN w w' v v' zs) : Rw (give own w.heap.size (i + 1)) i w' r ks v' zs ∧ Sn (In2 i) own w (give own w.heap.size (i + 1)) w' := by
  refine ⟨⟨h.rb.sn (I := fun _ => False) (Sn.quiet k _) (fun x => x), hl.1, fun b hb => ?_⟩, Sn.quiet k _⟩
  rcases hl.2 b hb with e | ⟨e1, e2⟩
  · obtain ⟨m1, m2⟩ := h.mine b e
    exact ⟨Nat.lt_of_lt_of_le m1 k.size, (give_old m1).trans m2⟩
  · exact ⟨e2, give_new e1⟩
theorem Rw.rbs (h : Rw own i w r ks v ys) (H : Keeps (fun c => own c = i) w w' ∧ Rbint.RbO (give own w.heap.size i) i w' r zs) : Rw (give own w.heap.size i) i w' r zs v ys ∧ Sn (In2 i) own w (give own w.heap.size i) w' := by
  have s : Sn (fun k => k = i) own w (give own w.heap.size i) w' := Sn.by H.1 _
  refine ⟨⟨H.2, h.li.keeps s.keeps (fun b hb x => by have := (h.mine b hb).2; omega), fun b hb => ⟨Nat.lt_of_lt_of_le (h.mine b hb).1 s.keeps.size, (s.agree _ (h.mine b hb).1).trans (h.mine b hb).2⟩⟩, s.mono (fun _ e => .inl e)⟩

/-- what a step makes of the list -/
def stepL (kind k : Int) (ks : List Int) : List Int :=
  if kind = 1 then addL ks k else if kind = 2 then remL ks k else if kind = 3 then rotL ks else if kind = 7 then [] else ks
theorem stepL_len (kind k : Int) (ks : List Int) : (stepL kind k ks).length ≤ ks.length + 1 := by
  unfold stepL
  split
  · unfold addL; split
    · omega
    · simp
  split
  · have : (remL ks k).length ≤ ks.length := List.length_erase_le
    omega
  split
  · cases ks <;> simp [rotL]
  split <;> simp

set_option maxHeartbeats 4000000 in
set_option maxRecDepth 20000 in
theorem step12 (kind k : Int) (hk : -9223372036854775808 ≤ k ∧ k ≤ 9223372036854775807) (h : Rw own i w r ks v ks) (hmax : ks.length * 8 + 8 ≤ 140737488355328) :
    Calls Try.prog 9 #[ptr r, v, .agg #[.int .i64 kind, .int .i64 k]] w fun e w' => ∃ v' own', e = .returned (.tuple #[v', .bool true]) ∧ Aside (Sn (In2 i) own w own' w' ∧ Rw own' i w' r (stepL kind k ks) v' (stepL kind k ks)) := by
  obtain ⟨w1, hw1⟩ : ∃ w1, w1 = w.alloc (.cells #[.int .i64 kind, .int .i64 k] 30) := ⟨_, rfl⟩
  obtain ⟨g, hg⟩ : ∃ g, g = w.heap.size := ⟨_, rfl⟩
  have k1 : Keeps Nowhere w w1 := by rw [hw1]; exact (Keeps.refl _ _).alloc _
  have hc : Cells w1 g 30 [.int .i64 kind, .int .i64 k] := by rw [hw1, hg]; exact Cells.new w _ _
  obtain ⟨own1, ho1⟩ : ∃ own1, own1 = give own w.heap.size (i + 1) := ⟨_, rfl⟩
  have s1 : Sn (In2 i) own w own1 w1 := by rw [ho1]; exact Sn.quiet k1 _
  have h1 : Rw own1 i w1 r ks v ks := by rw [ho1]; exact h.sn (I := fun _ => False) (Sn.quiet k1 _) (fun x => x) (fun x => x)
  have d0 : w1.cell? ⟨g, 0, none⟩ = some (.int .i64 kind) := hc.cell 0
  have d1 : w1.cell? ⟨g, 1, none⟩ = some (.int .i64 k) := hc.cell 1
  have S1 := Aside.mk s1
  have H1 := Aside.mk h1
  have HC := Aside.mk hc
  obtain ⟨pa, ca, ev, _⟩ := h.li.shape
  have EV := Aside.mk ev
  clear h s1 h1 k1 ho1 hc ev
  have hmx : ks.length ≤ 140737488355328 := by omega
  go_enter Try.func9, Try.ntmps9
  go_upto_region 1 with fail
  rw [← hg, ← hw1]
  clear hg hw1
  by_cases e1 : kind = 1
  · subst e1
    have CA := Aside.mk (add12 hk H1.it.li hmax)
    go_upto_region 4 with (first | (go_at_call 26; refine CA.it.mono ?_; clear CA; rintro e w2 ⟨v2, rfl, K2, L2⟩) | fail)
    obtain ⟨R2, S2⟩ := H1.it.ref K2.it L2.it
    have c1 : w2.cell? ⟨g, 1, none⟩ = some (.int .i64 k) := (HC.it.later K2.it (fun x => x)).cell 1
    have CB := Aside.mk (Rbint.addO (k := k) R2.rb hk (by unfold maxLen; omega))
    have X2 := Aside.mk (And.intro R2 S2)
    clear R2 S2 L2 K2
    go_wp2_with (first | (go_at_call 13; have _u := CB; clear _u; refine CB.it.mono ?_; clear CB; rintro e w3 ⟨rfl, H3⟩) | fail)
    go_ret2
    obtain ⟨R2, S2⟩ := X2.it
    obtain ⟨R3, S3⟩ := R2.rbs H3.it
    refine ⟨v2, _, by simp, ⟨(S1.it.trans S2).trans S3, ?_⟩⟩
    exact R3
  by_cases e2 : kind = 2
  · subst e2
    have CA := Aside.mk (remove12 k H1.it.li (by omega))
    go_upto_region 7 with (first | (go_at_call 27; refine CA.it.mono ?_; clear CA; rintro e w2 ⟨v2, rfl, K2, L2⟩) | fail)
    obtain ⟨R2, S2⟩ := H1.it.ref K2.it L2.it
    have c1 : w2.cell? ⟨g, 1, none⟩ = some (.int .i64 k) := (HC.it.later K2.it (fun x => x)).cell 1
    have CB := Aside.mk (Rbint.removeO (k := k) R2.rb hk)
    have X2 := Aside.mk (And.intro R2 S2)
    clear R2 S2 L2 K2
    go_wp2_with (first | (go_at_call 14; have _u := CB; clear _u; refine CB.it.mono ?_; clear CB; rintro e w3 ⟨rfl, H3⟩) | fail)
    go_ret2
    obtain ⟨R2, S2⟩ := X2.it
    obtain ⟨R3, S3⟩ := R2.rbs H3.it
    exact ⟨v2, _, by simp, ⟨(S1.it.trans S2).trans S3, R3⟩⟩
  by_cases e3 : kind = 3
  · subst e3
    have CA := Aside.mk (next12 H1.it.li (by omega))
    go_upto_region 10 with (first | (go_at_call 28; refine CA.it.mono ?_; clear CA; rintro e w2 ⟨v2, rfl, K2, L2⟩) | fail)
    obtain ⟨R2, S2⟩ := H1.it.ref K2.it L2.it
    have CB := Aside.mk (Rbint.nextO R2.rb)
    have X2 := Aside.mk (And.intro R2 S2)
    clear R2 S2 L2 K2
    go_wp2_with (first | (go_at_call 15; have _u := CB; clear _u; refine CB.it.mono ?_; clear CB; rintro e w3 ⟨rfl, H3⟩) | fail)
    go_ret2
    obtain ⟨R2, S2⟩ := X2.it
    obtain ⟨R3, S3⟩ := R2.rbs H3.it
    exact ⟨v2, _, by simp, ⟨(S1.it.trans S2).trans S3, R3⟩⟩
  by_cases e4 : kind = 4
  · subst e4
    have CA : Aside (∀ n, Calls Try.prog 17 #[ptr r, .int .i64 k] (w1.drewN n) fun e w' => e = .returned (.bool (inT ks k)) ∧ ∃ m, w' = w1.drewN m) := ⟨fun n => (Rbint.hasO (k := k) (H1.it.quiet ((Keeps.refl Nowhere w1).drewN n)).rb hk).mono fun _ _ x => ⟨x.1, n, x.2⟩⟩
    have CB : Aside (∀ n, Calls Try.prog 29 #[v, .int .i64 k] (w1.drewN n) fun e w' => e = .returned (.int .i64 (findI ks k)) ∧ ∃ m, w' = w1.drewN m) := ⟨fun n => (find12 k (H1.it.quiet ((Keeps.refl Nowhere w1).drewN n)).li).mono fun _ _ x => ⟨x.1, n, x.2⟩⟩
    have ef : (findI ks k ≥ 0) = (inT ks k = true) := by
      rcases findI_cases ks k with ⟨hn, ef⟩ | ⟨j, ef, hj, _⟩
      · rw [ef, inT_false hn]; simp
      · rw [ef, inT_true (List.mem_of_getElem? hj)]; simp
    generalize findI ks k = f at ef CB
    generalize inT ks k = t at ef CA
    go_upto_region 13 with fail
    cases t with
    | true =>
      have ef : f ≥ 0 := by rw [ef]
      go_quiet (first | (go_at_call 17; exact CA.it _) | (go_at_call 29; exact CB.it _))
      go_wp2_with fail
      go_ret2
      have k3 := (Keeps.refl Nowhere w1).drewN nq
      exact ⟨v, rfl, own1, ⟨S1.it.trans (Sn.same k3), H1.it.quiet k3⟩⟩
    | false =>
      have ef : ¬ f ≥ 0 := by rw [ef]; simp
      go_quiet (first | (go_at_call 17; exact CA.it _) | (go_at_call 29; exact CB.it _))
      go_wp2_with fail
      go_ret2
      have k3 := (Keeps.refl Nowhere w1).drewN nq
      exact ⟨v, rfl, own1, ⟨S1.it.trans (Sn.same k3), H1.it.quiet k3⟩⟩
  by_cases e5 : kind = 5
  · subst e5
    have CA := Aside.mk (Rbint.lenO H1.it.rb)
    have ev := EV.it
    subst ev
    go_wp2_with (first | (go_at_call 12; refine CA.it.mono ?_; clear CA; rintro e w2 ⟨rfl, rfl⟩) | fail)
    go_ret2
    exact ⟨_, _, by simp, ⟨S1.it, H1.it⟩⟩
  by_cases e6 : kind = 6
  · subst e6
    have CA := Aside.mk (Rbint.listO own1 (i + 1) H1.it.rb (by omega))
    have CB : Aside (∀ (W : World) (u : Value), Keeps Nowhere w1 W → RowAt W 3 u (ks.map (Value.int .i64)) → Calls Try.prog 10 #[u, v] W fun e w' => e = .returned (.bool true) ∧ Keeps Nowhere W w') := ⟨fun W u hk hu => same12 (row_rdI hu (by unfold maxLen; omega) (RbO_ky H1.it.rb)) (H1.it.quiet hk).li⟩
    go_wp2_with (first
      | (go_at_call 11; refine CA.it.mono ?_; clear CA; rintro e w2 ⟨u, rfl, L2, _⟩)
      | (go_at_call 10; have _u := L2; clear _u; refine (CB.it _ _ L2.it.1 L2.it.2.1).mono ?_; rintro e w3 ⟨rfl, k3⟩; have K3 := Aside.mk k3; clear k3)
      | fail)
    go_ret2
    have k3 := L2.it.1.trans K3.it
    exact ⟨_, _, by simp, ⟨S1.it.trans (Sn.same k3), H1.it.quiet k3⟩⟩
  by_cases e7 : kind = 7
  · subst e7
    have CA := Aside.mk (Rbint.clearO H1.it.rb)
    have ev := EV.it
    subst ev
    go_wp2_with (first | (go_at_call 18; refine CA.it.mono ?_; clear CA; rintro e w2 ⟨rfl, H2⟩) | fail)
    go_ret2
    obtain ⟨R3, S3⟩ := H1.it.rbs H2.it
    exact ⟨.slice none 0 0, _, by simp, ⟨S1.it.trans S3, R3.rb, (⟨none, 0, rfl, Nat.le_refl _, Nat.zero_le _, fun k z hz => by simp at hz⟩ : RdI w2 (.slice none 0 0) []), fun b hb => by cases hb⟩⟩
  have es : stepL kind k ks = ks := by unfold stepL; rw [if_neg e1, if_neg e2, if_neg e3, if_neg e7]
  go_wp2_with fail
  go_ret2
  rw [es]
  exact ⟨_, _, rfl, ⟨S1.it, H1.it⟩⟩
end Go.Proofs.Ytekokdfajbajoaa
