import Derived.Test.YtfphoaphdfhhiaaDoorSn
import Derived.Test.YtfphoaphdfhhiaaDoorRdOw
import Derived.Test.YtfphoaphdfhhiaaDoorQueRlaid
import Derived.Test.YtfphoaphdfhhiaaDoorOutP
import Derived.Test.YtfphoaphdfhhiaaDoorOwnB
import Derived.Test.YtfphoaphdfhhiaaDoorNumBytes
import Derived.Test.YtfphoaphdfhhiaaDoorFrameH
import Derived.BigQuiet
/-
  package out: what a buffer is in memory; New, Frames, Len
-/
namespace Go.Proofs.YtfphoaphdfhhiaaDoor
open Go.RowKit

theorem Flaid.FifoO_sn {I : Nat → Prop} {own own' : Nat → Nat} {w w' : World} {i p rt rw : Nat} {q : List (Nat × Nat)} (h : Flaid.FifoO own i w p rt rw q) (s : Sn I own w own' w') (hi : ¬ I i) : Flaid.FifoO own' i w' p rt rw q := by
  obtain ⟨v, f, g, h1, h2, h3, h4⟩ := h
  refine ⟨v, f, g, h1.later s.keeps ?_, h2, (s.agree p (h1.lt p (.inl rfl))).trans h3, fun k hk => (s.agree k (h1.lt k (.inr hk))).trans (h4 k hk)⟩
  rintro k (rfl | hk) e
  · rw [h3] at e; exact hi e
  · rw [h4 k hk] at e; exact hi e

/-- one frame that waits -/
def OneL (own : Nat → Nat) (j : Nat) (w : World) (b n : Nat) (r : List Int) : Prop := r ≠ [] ∧ r.length ≤ n ∧ ∃ v, CellsO own j w b 68 [v] ∧ RdO own j w v r
theorem OneL.sn {I : Nat → Prop} {own own' : Nat → Nat} {w w' : World} {j b n : Nat} {r : List Int} (h : OneL own j w b n r) (s : Sn I own w own' w') (hj : ¬ I j) : OneL own' j w' b n r := by
  obtain ⟨h1, h2, v, h3, h4⟩ := h
  exact ⟨h1, h2, v, h3.sn s hj, h4.sn s hj⟩
/-- frames of which nothing was taken -/
def Whole (own : Nat → Nat) (j : Nat) (w : World) : List (Nat × Nat) → List (List Int) → Prop
  | [], [] => True
  | x :: q, r :: rs => OneL own j w x.1 x.2 r ∧ x.2 = r.length ∧ Whole own j w q rs
  | _, _ => False
def Laids (own : Nat → Nat) (j : Nat) (w : World) : List (Nat × Nat) → List (List Int) → Prop
  | [], [] => True
  | x :: q, r :: rs => OneL own j w x.1 x.2 r ∧ Whole own j w q rs
  | _, _ => False
theorem Whole.sn {I : Nat → Prop} {own own' : Nat → Nat} {w w' : World} {j : Nat} {q : List (Nat × Nat)} {rs : List (List Int)} (h : Whole own j w q rs) (s : Sn I own w own' w') (hj : ¬ I j) : Whole own' j w' q rs := by
  induction q generalizing rs with
  | nil => cases rs <;> trivial
  | cons x q ih =>
    cases rs with
    | nil => exact h
    | cons r rs => exact ⟨h.1.sn s hj, h.2.1, ih h.2.2⟩
theorem Laids.sn {I : Nat → Prop} {own own' : Nat → Nat} {w w' : World} {j : Nat} {q : List (Nat × Nat)} {rs : List (List Int)} (h : Laids own j w q rs) (s : Sn I own w own' w') (hj : ¬ I j) : Laids own' j w' q rs := by
  cases q with
  | nil => cases rs <;> trivial
  | cons x q =>
    cases rs with
    | nil => exact h
    | cons r rs => exact ⟨h.1.sn s hj, Whole.sn h.2 s hj⟩
theorem Whole.sum {own : Nat → Nat} {w : World} {j : Nat} {q : List (Nat × Nat)} {rs : List (List Int)} (h : Whole own j w q rs) : Flaid.sumW q = rs.flatten.length ∧ q.length = rs.length ∧ ∀ r ∈ rs, r ≠ [] := by
  induction q generalizing rs with
  | nil => cases rs with
    | nil => exact ⟨rfl, rfl, fun r hr => by cases hr⟩
    | cons r rs => exact h.elim
  | cons x q ih =>
    cases rs with
    | nil => exact h.elim
    | cons r rs =>
      obtain ⟨a, b, c⟩ := ih h.2.2
      refine ⟨?_, by simp [b], fun y hy => ?_⟩
      · rw [Flaid.sumW_cons, a, List.flatten_cons, List.length_append, h.2.1]
      · rcases List.mem_cons.1 hy with rfl | hy
        · exact h.1.1
        · exact c y hy
theorem Whole.laids {own : Nat → Nat} {w : World} {j : Nat} {q : List (Nat × Nat)} {rs : List (List Int)} (h : Whole own j w q rs) : Laids own j w q rs := by
  cases q with
  | nil => cases rs <;> trivial
  | cons x q =>
    cases rs with
    | nil => exact h
    | cons r rs => exact ⟨h.1, h.2.2⟩
theorem Whole.snoc {own : Nat → Nat} {w : World} {j : Nat} {q : List (Nat × Nat)} {rs : List (List Int)} (h : Whole own j w q rs) (b : Nat) (r : List Int) (o : OneL own j w b r.length r) : Whole own j w (q ++ [(b, r.length)]) (rs ++ [r]) := by
  induction q generalizing rs with
  | nil => cases rs with
    | nil => exact ⟨o, rfl, trivial⟩
    | cons r rs => exact h.elim
  | cons x q ih =>
    cases rs with
    | nil => exact h.elim
    | cons r' rs => exact ⟨h.1, h.2.1, ih h.2.2⟩
theorem Laids.snoc {own : Nat → Nat} {w : World} {j : Nat} {q : List (Nat × Nat)} {rs : List (List Int)} (h : Laids own j w q rs) (b : Nat) (r : List Int) (o : OneL own j w b r.length r) : Laids own j w (q ++ [(b, r.length)]) (rs ++ [r]) := by
  cases q with
  | nil => cases rs with
    | nil => exact ⟨o, trivial⟩
    | cons r rs => exact h.elim
  | cons x q =>
    cases rs with
    | nil => exact h.elim
    | cons r' rs => exact ⟨h.1, Whole.snoc h.2 b r o⟩
theorem Laids.len {own : Nat → Nat} {w : World} {j : Nat} {q : List (Nat × Nat)} {rs : List (List Int)} (h : Laids own j w q rs) : q.length = rs.length ∧ ∀ r ∈ rs, r ≠ [] := by
  cases q with
  | nil => cases rs with
    | nil => exact ⟨rfl, fun r hr => by cases hr⟩
    | cons r rs => exact h.elim
  | cons x q =>
    cases rs with
    | nil => exact h.elim
    | cons r rs =>
      obtain ⟨_, b, c⟩ := Whole.sum h.2
      refine ⟨by simp [b], fun y hy => ?_⟩
      rcases List.mem_cons.1 hy with rfl | hy
      · exact h.1.1
      · exact c y hy

abbrev maxI : Nat := 9223372036854775807

/-- a buffer: its own memory is i's, the frames' is j's; what waits of each frame; tot: no less than the frames' whole weight -/
structure BufI (own : Nat → Nat) (i j : Nat) (w : World) (p qp : Nat) (q : List (Nat × Nat)) (rs : List (List Int)) (tot : Nat) : Prop where
  box : CellsO own j w p 57 [ptr qp]
  fifo : Flaid.FifoO own i w qp maxI maxI q
  laids : Laids own j w q rs
  nodup : (q.map (·.1)).Nodup
  tot : Flaid.sumW q ≤ tot
def BufO (own : Nat → Nat) (i j : Nat) (w : World) (p : Nat) (rs : List (List Int)) (tot : Nat) : Prop := ∃ qp q, BufI own i j w p qp q rs tot

section
variable {own own' : Nat → Nat} {i j : Nat} {w w' : World} {p qp tot : Nat} {q : List (Nat × Nat)} {rs : List (List Int)} {I : Nat → Prop}

theorem BufI.sn (h : BufI own i j w p qp q rs tot) (s : Sn I own w own' w') (hi : ¬ I i) (hj : ¬ I j) : BufI own' i j w' p qp q rs tot :=
  ⟨h.box.sn s hj, Flaid.FifoO_sn h.fifo s hi, Laids.sn h.laids s hj, h.nodup, h.tot⟩
theorem BufO.sn (h : BufO own i j w p rs tot) (s : Sn I own w own' w') (hi : ¬ I i) (hj : ¬ I j) : BufO own' i j w' p rs tot := by
  obtain ⟨qp, q, h⟩ := h
  exact ⟨qp, q, h.sn s hi hj⟩
theorem BufI.quiet (h : BufI own i j w p qp q rs tot) (hk : Keeps Nowhere w w') : BufI own i j w' p qp q rs tot := h.sn (I := fun _ => False) (Sn.same hk) (fun x => x) (fun x => x)
theorem BufO.quiet (h : BufO own i j w p rs tot) (hk : Keeps Nowhere w w') : BufO own i j w' p rs tot := h.sn (I := fun _ => False) (Sn.same hk) (fun x => x) (fun x => x)
theorem BufO.ne (h : BufO own i j w p rs tot) : ∀ r ∈ rs, r ≠ [] := by
  obtain ⟨qp, q, h⟩ := h
  exact (Laids.len h.laids).2

theorem newB (w : World) (own : Nat → Nat) (i j : Nat) :
    Calls Tryd.prog 5 #[] w fun e w' => ∃ p, ∃ own', e = .returned (ptr p) ∧ Aside (BufO own' i j w' p [] 0 ∧ Sn (fun _ => False) own w own' w') := by
  have N := Aside.mk (Flaid.new_o w maxI maxI (by decide) (by decide) own i)
  go_enter Tryd.func5, Tryd.ntmps5
  go_wp2_with (go_at_call 15; refine N.it.mono ?_; rintro e w1 ⟨qp, rfl, h1, k1⟩)
  go_ret
  have ka : Keeps Nowhere w1 (w1.alloc (.cells #[ptr qp] 57)) := (Keeps.refl _ _).alloc _
  refine ⟨_, give (give own w.heap.size i) w1.heap.size j, rfl, ⟨⟨qp, [], ⟨⟨Cells.new w1 _ [ptr qp], give_new (Nat.le_refl _)⟩, (h1.it.gave j).quiet ka, trivial, List.nodup_nil, Nat.le_refl _⟩⟩, (Sn.quiet k1.it i).trans (Sn.quiet ka j)⟩⟩
theorem frames_nil (w : World) : Calls Tryd.prog 14 #[.pointer none] w fun e w' => e = .returned (.int .i64 0) ∧ w' = w := by
  go_enter Tryd.func14, Tryd.ntmps14
  go_wp2
  go_ret
  exact ⟨rfl, rfl⟩
theorem frames_i (h : BufI own i j w p qp q rs tot) : Calls Tryd.prog 14 #[ptr p] w fun e w' => e = .returned (.int .i64 rs.length) ∧ Keeps Nowhere w w' := by
  have c0 : w.cell? ⟨p, 0, none⟩ = some (ptr qp) := by rw [h.box.1.cell]; rfl
  have L := Aside.mk (Flaid.len_o h.fifo)
  rw [(Laids.len h.laids).1] at L
  clear h
  go_enter Tryd.func14, Tryd.ntmps14
  go_wp2_with (go_at_call 27; refine L.it.mono ?_; rintro e w1 ⟨rfl, k1⟩)
  go_ret
  exact ⟨rfl, k1⟩
theorem len_nilB (w : World) : Calls Tryd.prog 13 #[.pointer none] w fun e w' => e = .returned (.int .i64 0) ∧ w' = w := by
  go_enter Tryd.func13, Tryd.ntmps13
  go_wp2_with (go_at_call 14; refine (frames_nil w).mono ?_; rintro e w1 ⟨rfl, rfl⟩)
  go_ret
  exact ⟨rfl, rfl⟩
end
end Go.Proofs.YtfphoaphdfhhiaaDoor

/-
  package out: Len
-/
namespace Go.Proofs.YtfphoaphdfhhiaaDoor
open Go.RowKit

section
variable {own own' : Nat → Nat} {i j : Nat} {w w' : World} {p qp tot : Nat} {q : List (Nat × Nat)} {rs : List (List Int)} {I : Nat → Prop}

set_option maxHeartbeats 1000000 in
theorem lenB (h : BufO own i j w p rs tot) : Calls Tryd.prog 13 #[ptr p] w fun e w' => e = .returned (.int .i64 rs.flatten.length) ∧ Aside (Keeps Nowhere w w') := by
  obtain ⟨qp, q, h⟩ := h
  have F := Aside.mk (frames_i h)
  cases q with
  | nil =>
    obtain rfl : rs = [] := List.eq_nil_of_length_eq_zero (Laids.len h.laids).1.symm
    clear h
    go_enter Tryd.func13, Tryd.ntmps13
    go_wp2_with (go_at_call 14; refine F.it.mono ?_; rintro e w1 ⟨rfl, k1⟩)
    go_ret
    exact ⟨rfl, ⟨k1⟩⟩
  | cons x q =>
    cases rs with
    | nil => exact (h.laids).elim
    | cons r rs =>
      have hl := h.laids
      obtain ⟨⟨_, hrn, v, hv1, hv2⟩, hw⟩ := hl
      obtain ⟨hsum, _, _⟩ := Whole.sum hw
      have hsw := h.fifo.weight
      have Z := Aside.mk (fun W (k : Keeps Nowhere w W) => Flaid.weight_quiet_o (h.quiet k).fifo)
      have HD := Aside.mk (fun W (k : Keeps Nowhere w W) => Flaid.head_o x (h.quiet k).fifo)
      rw [Flaid.sumW_cons, hsum] at Z hsw
      have BX := Aside.mk h.box
      obtain ⟨va, vc, hv⟩ := hv2.shape
      subst hv
      have HV := Aside.mk hv1
      have e1 : Aside ((r :: rs).flatten.length = r.length + rs.flatten.length) := ⟨by simp⟩
      rw [e1.it]
      obtain ⟨T, hT⟩ : ∃ T, T = rs.flatten.length := ⟨_, rfl⟩
      obtain ⟨R, hR⟩ : ∃ R, R = r.length := ⟨_, rfl⟩
      rw [← hT] at Z hsw ⊢
      rw [← hR] at hrn HV ⊢
      obtain ⟨M, hMM⟩ : ∃ M, M = rs.length := ⟨_, rfl⟩
      rw [List.length_cons, ← hMM] at F
      obtain ⟨xb, xn⟩ := x
      have hlen : ((M : Int) + 1 == 0) = false := by simp; omega
      have hM : maxI = 9223372036854775807 := rfl
      rw [hM] at hsw
      simp only at hrn hsw
      have i1 : ((xn : Int) + T) - xn = T := by omega
      have i2 : (T : Int) + R ≤ 9223372036854775807 := by omega
      clear hM hsum hw hv1 hv2 h hR hT hMM e1
      go_enter Tryd.func13, Tryd.ntmps13
      go_wp2_with (first
        | (go_at_call 14; refine F.it.mono ?_; rintro e w1 ⟨rfl, k1⟩; have K1 := Aside.mk k1; clear k1; have c1 : w1.cell? ⟨p, 0, none⟩ = some (ptr qp) := (by rw [(BX.it.quiet K1.it).1.cell]; rfl))
        | (go_at_call 25; refine (HD.it w1 K1.it).mono ?_; rintro e w2 ⟨rfl, k2⟩; have K2 := Aside.mk (K1.it.trans k2.it); clear c1; have c2 : w2.cell? ⟨p, 0, none⟩ = some (ptr qp) := (by rw [(BX.it.quiet K2.it).1.cell]; rfl); have b2 : w2.cell? ⟨xb, 0, none⟩ = some (.slice va R vc) := (by rw [(HV.it.quiet K2.it).1.cell]; rfl))
        | fail)
      have WD := hide (Z.it w2 K2.it)
      go_quiet ((go_at_call 26; exact WD.out _))
      go_wp2
      go_ret
      exact ⟨by rw [show ((R + T : Nat) : Int) = (T : Int) + R from by omega]; rfl, ⟨K2.it.drewN _⟩⟩
theorem framesB (h : BufO own i j w p rs tot) : Calls Tryd.prog 14 #[ptr p] w fun e w' => e = .returned (.int .i64 rs.length) ∧ Aside (Keeps Nowhere w w') := by
  obtain ⟨qp, q, h⟩ := h
  exact (frames_i h).mono fun e w' x => ⟨x.1, ⟨x.2⟩⟩
theorem clos_all (x : Nat) (W : World) : Calls Tryd.prog 29 #[ptr x] W fun e W' => e = .returned (.bool true) ∧ W' = W := by
  go_enter Tryd.func29, Tryd.ntmps29
  go_wp2
  go_ret
  exact ⟨rfl, rfl⟩
theorem clear_nilB (w : World) : Calls Tryd.prog 18 #[.pointer none] w fun e w' => e = .returned (.int .i64 0) ∧ w' = w := by
  go_enter Tryd.func18, Tryd.ntmps18
  go_wp2_with (go_at_call 13; refine (len_nilB w).mono ?_; rintro e w1 ⟨rfl, rfl⟩)
  go_ret
  exact ⟨rfl, rfl⟩
theorem flat_pos (h : ∀ r ∈ rs, r ≠ []) (hr : rs ≠ []) : 0 < rs.flatten.length := by
  cases rs with
  | nil => exact absurd rfl hr
  | cons r rs =>
    have := h r List.mem_cons_self
    have := List.length_pos_iff.2 this
    simp only [List.flatten_cons, List.length_append]
    omega
theorem clearB (hij : i ≠ j) (h : BufO own i j w p rs tot) : Calls Tryd.prog 18 #[ptr p] w fun e w' => ∃ own', e = .returned (.int .i64 rs.flatten.length) ∧ Aside (BufO own' i j w' p [] tot ∧ Sn (fun k => k = i) own w own' w') := by
  have L := Aside.mk (lenB h)
  by_cases hr : rs = []
  · have H := Aside.mk h
    subst hr
    clear h
    go_enter Tryd.func18, Tryd.ntmps18
    go_wp2_with (go_at_call 13; refine L.it.mono ?_; rintro e w1 ⟨rfl, k1⟩)
    go_ret
    exact ⟨own, rfl, ⟨H.it.quiet k1.it, Sn.same k1.it⟩⟩
  · have hp := flat_pos h.ne hr
    obtain ⟨qp, q, h⟩ := h
    have hq : q ≠ [] := fun e => by subst e; exact hr (List.eq_nil_of_length_eq_zero (Laids.len h.laids).1.symm)
    obtain ⟨T, hT⟩ : ∃ T, T = rs.flatten.length := ⟨_, rfl⟩
    rw [← hT] at L hp ⊢
    have R := Aside.mk (fun W (k : Keeps Nowhere w W) => Flaid.remove_all_o (h.quiet k).fifo hq clos_all)
    have BX := Aside.mk h.box
    have hp' : (0 : Int) < T := by omega
    clear hT hp h hq hr
    go_enter Tryd.func18, Tryd.ntmps18
    go_wp2_with (first
      | (go_at_call 13; refine L.it.mono ?_; rintro e w1 ⟨rfl, k1⟩; have c1 : w1.cell? ⟨p, 0, none⟩ = some (ptr qp) := (by rw [(BX.it.quiet k1.it).1.cell]; rfl))
      | (go_at_call 28; refine (R.it w1 k1.it).mono ?_; rintro e w2 ⟨rfl, f2, k2⟩)
      | fail)
    all_goals first
      | (exfalso; omega)
      | skip
    go_ret
    have s1 : Sn (fun k => k = i) own w own w1 := Sn.same k1.it
    have s2 : Sn (fun k => k = i) own w1 (give own w1.heap.size i) w2 := Sn.by k2.it i
    exact ⟨_, rfl, ⟨⟨qp, [], ⟨(BX.it.sn s1 (fun e => hij e.symm)).sn s2 (fun e => hij e.symm), f2.it, trivial, List.nodup_nil, Nat.zero_le _⟩⟩, s1.trans s2⟩⟩
end
end Go.Proofs.YtfphoaphdfhhiaaDoor

