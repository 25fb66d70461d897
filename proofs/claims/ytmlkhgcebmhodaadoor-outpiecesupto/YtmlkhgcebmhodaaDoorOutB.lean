/-
  package out: Len
-/
import Derived.Test.YtmlkhgcebmhodaaDoorOutA
import Derived.BigQuiet
namespace Go.Proofs.YtmlkhgcebmhodaaDoor
open Go.RowKit

section
variable {own own' : Nat → Nat} {i j : Nat} {w w' : World} {p qp tot : Nat} {q : List (Nat × Nat)} {rs : List (List Int)} {I : Nat → Prop}

set_option maxHeartbeats 1000000 in
theorem lenB (h : BufO own i j w p rs tot) : Calls Tryd.prog 12 #[ptr p] w fun e w' => e = .returned (.int .i64 rs.flatten.length) ∧ Aside (Keeps Nowhere w w') := by
  obtain ⟨qp, q, h⟩ := h
  have F := Aside.mk (frames_i h)
  cases q with
  | nil =>
    obtain rfl : rs = [] := List.eq_nil_of_length_eq_zero (Laids.len h.laids).1.symm
    clear h
    go_enter Tryd.func12, Tryd.ntmps12
    go_wp2_with (go_at_call 13; refine F.it.mono ?_; rintro e w1 ⟨rfl, k1⟩)
    go_ret
    exact ⟨rfl, ⟨k1⟩⟩
  | cons x q =>
    cases rs with
    | nil => exact (h.laids).elim
    | cons r rs =>
      have hl := h.laids
      obtain ⟨⟨_, hrn, v, hv1, hv2⟩, hw⟩ := hl
      obtain ⟨hsum, _, _⟩ := Whole.sum hw
      have hsw := h.fifo.weight
      have Z := Aside.mk (fun W (k : Keeps Nowhere w W) => Flaid.weight_quiet_o (h.quiet k).fifo)
      have HD := Aside.mk (fun W (k : Keeps Nowhere w W) => Flaid.head_o x (h.quiet k).fifo)
      rw [Flaid.sumW_cons, hsum] at Z hsw
      have BX := Aside.mk h.box
      obtain ⟨va, vc, hv⟩ := hv2.shape
      subst hv
      have HV := Aside.mk hv1
      have e1 : Aside ((r :: rs).flatten.length = r.length + rs.flatten.length) := ⟨by simp⟩
      rw [e1.it]
      obtain ⟨T, hT⟩ : ∃ T, T = rs.flatten.length := ⟨_, rfl⟩
      obtain ⟨R, hR⟩ : ∃ R, R = r.length := ⟨_, rfl⟩
      rw [← hT] at Z hsw ⊢
      rw [← hR] at hrn HV ⊢
      obtain ⟨M, hMM⟩ : ∃ M, M = rs.length := ⟨_, rfl⟩
      rw [List.length_cons, ← hMM] at F
      obtain ⟨xb, xn⟩ := x
      have hlen : ((M : Int) + 1 == 0) = false := by simp; omega
      have hM : maxI = 9223372036854775807 := rfl
      rw [hM] at hsw
      simp only at hrn hsw
      have i1 : ((xn : Int) + T) - xn = T := by omega
      have i2 : (T : Int) + R ≤ 9223372036854775807 := by omega
      clear hM hsum hw hv1 hv2 h hR hT hMM e1
      go_enter Tryd.func12, Tryd.ntmps12
      go_wp2_with (first
        | (go_at_call 13; refine F.it.mono ?_; rintro e w1 ⟨rfl, k1⟩; have K1 := Aside.mk k1; clear k1; have c1 : w1.cell? ⟨p, 0, none⟩ = some (ptr qp) := (by rw [(BX.it.quiet K1.it).1.cell]; rfl))
        | (go_at_call 26; refine (HD.it w1 K1.it).mono ?_; rintro e w2 ⟨rfl, k2⟩; have K2 := Aside.mk (K1.it.trans k2.it); clear c1; have c2 : w2.cell? ⟨p, 0, none⟩ = some (ptr qp) := (by rw [(BX.it.quiet K2.it).1.cell]; rfl); have b2 : w2.cell? ⟨xb, 0, none⟩ = some (.slice va R vc) := (by rw [(HV.it.quiet K2.it).1.cell]; rfl))
        | fail)
      have WD := hide (Z.it w2 K2.it)
      go_quiet ((go_at_call 27; exact WD.out _))
      go_wp2
      go_ret
      exact ⟨by rw [show ((R + T : Nat) : Int) = (T : Int) + R from by omega]; rfl, ⟨K2.it.drewN _⟩⟩
theorem framesB (h : BufO own i j w p rs tot) : Calls Tryd.prog 13 #[ptr p] w fun e w' => e = .returned (.int .i64 rs.length) ∧ Aside (Keeps Nowhere w w') := by
  obtain ⟨qp, q, h⟩ := h
  exact (frames_i h).mono fun e w' x => ⟨x.1, ⟨x.2⟩⟩
theorem clos_all (x : Nat) (W : World) : Calls Tryd.prog 30 #[ptr x] W fun e W' => e = .returned (.bool true) ∧ W' = W := by
  go_enter Tryd.func30, Tryd.ntmps30
  go_wp2
  go_ret
  exact ⟨rfl, rfl⟩
theorem clear_nilB (w : World) : Calls Tryd.prog 14 #[.pointer none] w fun e w' => e = .returned (.int .i64 0) ∧ w' = w := by
  go_enter Tryd.func14, Tryd.ntmps14
  go_wp2_with (go_at_call 12; refine (len_nilB w).mono ?_; rintro e w1 ⟨rfl, rfl⟩)
  go_ret
  exact ⟨rfl, rfl⟩
theorem flat_pos (h : ∀ r ∈ rs, r ≠ []) (hr : rs ≠ []) : 0 < rs.flatten.length := by
  cases rs with
  | nil => exact absurd rfl hr
  | cons r rs =>
    have := h r List.mem_cons_self
    have := List.length_pos_iff.2 this
    simp only [List.flatten_cons, List.length_append]
    omega
theorem clearB (hij : i ≠ j) (h : BufO own i j w p rs tot) : Calls Tryd.prog 14 #[ptr p] w fun e w' => ∃ own', e = .returned (.int .i64 rs.flatten.length) ∧ Aside (BufO own' i j w' p [] tot ∧ Sn (fun k => k = i) own w own' w') := by
  have L := Aside.mk (lenB h)
  by_cases hr : rs = []
  · have H := Aside.mk h
    subst hr
    clear h
    go_enter Tryd.func14, Tryd.ntmps14
    go_wp2_with (go_at_call 12; refine L.it.mono ?_; rintro e w1 ⟨rfl, k1⟩)
    go_ret
    exact ⟨own, rfl, ⟨H.it.quiet k1.it, Sn.same k1.it⟩⟩
  · have hp := flat_pos h.ne hr
    obtain ⟨qp, q, h⟩ := h
    have hq : q ≠ [] := fun e => by subst e; exact hr (List.eq_nil_of_length_eq_zero (Laids.len h.laids).1.symm)
    obtain ⟨T, hT⟩ : ∃ T, T = rs.flatten.length := ⟨_, rfl⟩
    rw [← hT] at L hp ⊢
    have R := Aside.mk (fun W (k : Keeps Nowhere w W) => Flaid.remove_all_o (h.quiet k).fifo hq clos_all)
    have BX := Aside.mk h.box
    have hp' : (0 : Int) < T := by omega
    clear hT hp h hq hr
    go_enter Tryd.func14, Tryd.ntmps14
    go_wp2_with (first
      | (go_at_call 12; refine L.it.mono ?_; rintro e w1 ⟨rfl, k1⟩; have c1 : w1.cell? ⟨p, 0, none⟩ = some (ptr qp) := (by rw [(BX.it.quiet k1.it).1.cell]; rfl))
      | (go_at_call 29; refine (R.it w1 k1.it).mono ?_; rintro e w2 ⟨rfl, f2, k2⟩)
      | fail)
    all_goals first
      | (exfalso; omega)
      | skip
    go_ret
    have s1 : Sn (fun k => k = i) own w own w1 := Sn.same k1.it
    have s2 : Sn (fun k => k = i) own w1 (give own w1.heap.size i) w2 := Sn.by k2.it i
    exact ⟨_, rfl, ⟨⟨qp, [], ⟨(BX.it.sn s1 (fun e => hij e.symm)).sn s2 (fun e => hij e.symm), f2.it, trivial, List.nodup_nil, Nat.zero_le _⟩⟩, s1.trans s2⟩⟩
end
end Go.Proofs.YtmlkhgcebmhodaaDoor
