/-
  LruMoves in numbers: who goes is as few as may be. Of whatever program.
-/
import Derived.Test.YthjeeianlgkaaaaDoorLuJ
namespace Go.Proofs.YthjeeianlgkaaaaDoor
open Lulnn

variable {L M : List Rx} {x y : Rx} {k lim room now : Int} {n j : Nat} {z : Oz}

theorem fitN_next (h : fitN lim L n < n) : ¬ sumL (L.take (fitN lim L n + 1)) ≤ lim := by
  induction n with
  | zero => omega
  | succ n ih =>
    by_cases e : sumL (L.take (n + 1)) ≤ lim
    · have := fitN_stop e; omega
    · rw [fitN_on e] at h ⊢
      rcases Nat.lt_or_ge (fitN lim L n) n with h1 | h1
      · exact ih h1
      · have h2 := fitN_le lim L n
        have h3 : fitN lim L n = n := by omega
        rw [h3]; exact e
theorem fit_next (h : fit lim L < L.length) : ¬ sumL (L.take (fit lim L + 1)) ≤ lim := fitN_next h
theorem sumL_next (h : L[j]? = some x) : sumL (L.take (j + 1)) = sumL (L.take j) + x.w := by
  rw [List.take_add_one, h, sumL_append]
  show _ = sumL (L.take j) + x.w
  rw [show sumL (some x).toList = x.w by simp [sumL]]
theorem filter_drop (h : (keyL L).Nodup) (k : Int) : L.filter (fun x => !decide (x.k = k)) = dropL L k := by
  induction L with
  | nil => rfl
  | cons a L ih =>
    unfold keyL at h ih
    rw [List.map_cons, List.nodup_cons] at h
    unfold dropL
    by_cases e : a.k = k
    · rw [List.eraseP_cons_of_pos (by simpa using e), List.filter_cons_of_neg (by simp [e])]
      refine List.filter_eq_self.2 fun b hb => ?_
      simp only [Bool.not_eq_true', decide_eq_false_iff_not]
      exact fun eb => h.1 (by rw [e, ← eb]; exact List.mem_map.2 ⟨b, hb, rfl⟩)
    · rw [List.eraseP_cons_of_neg (by simpa using e), List.filter_cons_of_pos (by simp [e])]
      have := ih h.2
      unfold dropL at this
      rw [this]
def woL (L : List Rx) (k : Int) : List Rx := L.filter (fun x => !decide (x.k = k))
theorem woL_len : (woL L k).length ≤ L.length := List.length_filter_le _ _
theorem woL_take (h : L[j]? = some x) (hk : x.k ≠ k) : woL (L.take (j + 1)) k = woL (L.take j) k ++ [x] := by
  rw [List.take_add_one, h]
  unfold woL
  rw [List.filter_append]
  congr 1
  simp [hk]
theorem woL_same (h : L[j]? = some x) (hk : x.k = k) : woL (L.take (j + 1)) k = woL (L.take j) k := by
  rw [List.take_add_one, h]
  unfold woL
  rw [List.filter_append]
  simp [hk]
/-- the weights by key -/
def Wts (F : Int → Int) (L : List Rx) : Prop := ∀ x ∈ L, F x.k = x.w
theorem Wts.sub {F : Int → Int} (h : Wts F L) (hs : ∀ x ∈ M, x ∈ L) : Wts F M := fun x hx => h x (hs x hx)
theorem Wts.put {F : Int → Int} (h : Wts F L) (hn : (keyL L).Nodup) (x : Rx) : Wts (fun k' => if k' = x.k then x.w else F k') (putL room L x) := by
  intro y hy
  unfold putL at hy
  rcases List.mem_cons.1 hy with e | e
  · subst e; exact if_pos rfl
  · have h1 := List.mem_of_mem_take e
    have h2 : y.k ≠ x.k := fun ek => dropL_out (k := x.k) hn (List.mem_map.2 ⟨y, h1, ek⟩)
    show (if y.k = x.k then x.w else F y.k) = y.w
    rw [if_neg h2]
    exact h y (dropL_sub.subset h1)
theorem gone_len (room : Int) (L : List Rx) (x : Rx) : (goneX room L x).length = (dropL L x.k).length - fit (room - x.w) (dropL L x.k) := by
  unfold goneX; rw [List.length_reverse, List.length_drop]
theorem gone_at (h : j < (goneX room L x).length) : ∃ y, (goneX room L x)[j]? = some y ∧ (dropL L x.k)[(dropL L x.k).length - 1 - j]? = some y := by
  have h1 := gone_len room L x
  obtain ⟨y, hy⟩ : ∃ y, (goneX room L x)[j]? = some y := ⟨_, List.getElem?_eq_getElem h⟩
  refine ⟨y, hy, ?_⟩
  unfold goneX at hy
  rw [List.getElem?_reverse (by rw [List.length_drop]; omega), List.getElem?_drop, List.length_drop] at hy
  rw [← hy]
  congr 1
  omega
/-- the last that goes is the first that can't stay -/
theorem gone_last (h : 0 < (goneX room L x).length) : ∃ y, (goneX room L x)[(goneX room L x).length - 1]? = some y ∧ y ∈ dropL L x.k ∧ room - x.w - y.w < sumL ((dropL L x.k).take (fit (room - x.w) (dropL L x.k))) := by
  have h1 := gone_len room L x
  obtain ⟨y, h2, h3⟩ := gone_at (j := (goneX room L x).length - 1) (x := x) (room := room) (L := L) (by omega)
  have hf := fit_le (room - x.w) (dropL L x.k)
  have e : (dropL L x.k).length - 1 - ((goneX room L x).length - 1) = fit (room - x.w) (dropL L x.k) := by omega
  rw [e] at h3
  refine ⟨y, h2, List.mem_of_getElem? h3, ?_⟩
  have h4 := fit_next (lim := room - x.w) (L := dropL L x.k) (by omega)
  rw [sumL_next h3] at h4
  omega
theorem put_len (room : Int) (L : List Rx) (x : Rx) : (putL room L x).length = (dropL L x.k).length - (goneX room L x).length + 1 := by
  have h1 := gone_len room L x
  have hf := fit_le (room - x.w) (dropL L x.k)
  unfold putL
  rw [List.length_cons, List.length_take]
  omega
theorem put_tail (room : Int) (L : List Rx) (x : Rx) : (putL room L x).drop 1 = (dropL L x.k).take ((dropL L x.k).length - (goneX room L x).length) := by
  have h1 := gone_len room L x
  have hf := fit_le (room - x.w) (dropL L x.k)
  unfold putL
  rw [List.drop_succ_cons, List.drop_zero]
  congr 1
  omega
theorem put_gone_le (room : Int) (L : List Rx) (x : Rx) : (goneX room L x).length ≤ (dropL L x.k).length := by
  rw [gone_len]; omega
/-- the place of a key among the rows -/
def atM (L : List Rx) (k : Int) : Int := match L.findIdx? (fun x => decide (x.k = k)) with | some i => i | none => -1
theorem atM_drop (hx : L[j]? = some x) (h : ∀ y ∈ L.take j, y.k ≠ k) (e : x.k = k) : atM L k = j := by
  unfold atM
  have : L.findIdx? (fun x => decide (x.k = k)) = some j := by
    obtain ⟨hl, hx'⟩ := List.getElem?_eq_some_iff.1 hx
    refine List.findIdx?_eq_some_iff_getElem.2 ⟨hl, by rw [hx']; simpa using e, fun i hi => ?_⟩
    have hm : L[i] ∈ L.take j := by
      refine List.mem_iff_getElem.2 ⟨i, by rw [List.length_take]; omega, by rw [List.getElem_take]⟩
    simpa using h _ hm
  rw [this]
theorem atM_none (h : ∀ y ∈ L, y.k ≠ k) : atM L k = -1 := by
  unfold atM
  have : L.findIdx? (fun x => decide (x.k = k)) = none := by
    rw [List.findIdx?_eq_none_iff]
    intro y hy
    simpa using h y hy
  rw [this]
theorem atM_find (h : findL L k = some x) : ∃ j : Nat, atM L k = (j : Int) ∧ L[j]? = some x := by
  have h1 := List.find?_isSome (xs := L) (p := fun x : Rx => decide (x.k = k))
  cases e : L.findIdx? (fun x => decide (x.k = k)) with
  | none =>
    rw [List.findIdx?_eq_none_iff] at e
    obtain ⟨h2, h3⟩ := findL_some h
    have := e x h2
    simp [h3] at this
  | some j =>
    refine ⟨j, by unfold atM; rw [e], ?_⟩
    have h2 := List.find?_eq_some_iff_getElem.1 h
    obtain ⟨h3, i, hi, h4, h5⟩ := h2
    obtain ⟨g1, g2, g3⟩ := List.findIdx?_eq_some_iff_getElem.1 e
    have : i = j := by
      rcases Nat.lt_trichotomy i j with hh | hh | hh
      · have := g3 i hh; rw [h4] at this; simp at h3; simp [h3] at this
      · exact hh
      · have := h5 j hh; simp at g2; simp [g2] at this
    rw [← this, ← h4]
    exact List.getElem?_eq_getElem hi
theorem atM_no (h : findL L k = none) : atM L k = -1 := atM_none fun y hy e => findL_none h (List.mem_map.2 ⟨y, hy, e⟩)
/-- a Put that is taken, in letters: what is left ahead of it, what stands behind it, what goes -/
structure PutN (room : Int) (F : Int → Int) (z : Oz) (D P G : List Rx) (f : Nat) : Prop where
  dl : D.length = f + G.length
  p : P = z.rx :: D.take f
  g : ∀ j, j < G.length → ∃ y, G[j]? = some y ∧ D[f + G.length - 1 - j]? = some y
  last : 0 < G.length → ∃ y, G[G.length - 1]? = some y ∧ F y.k = y.w ∧ I6 y.k ∧ (0 ≤ y.w ∧ y.w ≤ 9223372036854775807) ∧ room - z.w - y.w < sumL P - z.w
  sums : ∀ j, 0 ≤ sumL (P.take j) ∧ sumL (P.take j) ≤ room
  wts : Wts F P
  w0 : 0 ≤ z.w ∧ z.w ≤ room ∧ room ≤ 9223372036854775807
  zw : F z.k = z.w
theorem putN_of {F : Int → Int} (h : LOk room L) (hz : z.Ok) (hm : mayP room z.w = true) (hF : Wts F L) : ∃ D P G f, dropL L z.k = D ∧ putL room L z.rx = P ∧ goneX room L z.rx = G ∧ PutN room (fun k' => if k' = z.k then z.w else F k') z D P G f := by
  obtain ⟨h0, hr⟩ := may_true hm
  have hx := hz.rx h0
  have hl := gone_len room L z.rx
  have hp := h.put hx hr
  have hf := fit_le (room - z.w) (dropL L z.k)
  have e0 : putL room L z.rx = z.rx :: (dropL L z.k).take (fit (room - z.w) (dropL L z.k)) := rfl
  simp only [show z.rx.k = z.k from rfl, show z.rx.w = z.w from rfl] at hl
  have dl : (dropL L z.k).length = fit (room - z.w) (dropL L z.k) + (goneX room L z.rx).length := by omega
  refine ⟨_, _, _, fit (room - z.w) (dropL L z.k), rfl, rfl, rfl, dl, e0, fun j hj => ?_, fun hg => ?_, fun j => ⟨?_, ?_⟩, hF.put h.one z.rx, ⟨h0, hr, h.r1⟩, if_pos rfl⟩
  · obtain ⟨y, h1, h2⟩ := gone_at hj
    refine ⟨y, h1, ?_⟩
    rw [← dl]
    exact h2
  · obtain ⟨y, h1, h2, h3⟩ := gone_last hg
    have hd := h.drop z.k
    have h4 : y.k ≠ z.k := fun ek => dropL_out (k := z.k) h.one (List.mem_map.2 ⟨y, h2, ek⟩)
    refine ⟨y, h1, ?_, (hd.ok y h2).k, (hd.ok y h2).w, ?_⟩
    · show (if y.k = z.k then z.w else F y.k) = y.w
      rw [if_neg h4]
      exact hF y (dropL_sub.subset h2)
    · rw [e0, sumL_cons]
      have : z.rx.w = z.w := rfl
      have h3' : room - z.w - y.w < sumL ((dropL L z.k).take (fit (room - z.w) (dropL L z.k))) := h3
      omega
  · exact sumL_nonneg (fun x hx => hp.w0 x (List.mem_of_mem_take hx))
  · exact Int.le_trans (sumL_take_le hp.w0 j) hp.sum
theorem stay_take (h : L[j]? = some x) (hu : now < x.u) : stayL (L.take (j + 1)) now = stayL (L.take j) now ++ [x] ∧ oldL (L.take (j + 1)) now = oldL (L.take j) now := by
  rw [List.take_add_one, h]
  unfold stayL oldL
  rw [List.filter_append, List.filter_append]
  constructor <;> simp [hu]
theorem old_take (h : L[j]? = some x) (hu : ¬ now < x.u) : stayL (L.take (j + 1)) now = stayL (L.take j) now ∧ oldL (L.take (j + 1)) now = oldL (L.take j) now ++ [x] := by
  rw [List.take_add_one, h]
  unfold stayL oldL
  rw [List.filter_append, List.filter_append]
  constructor <;> simp [hu]
theorem old_at (h : L[j]? = some x) (hu : ¬ now < x.u) : (oldL L now)[(oldL (L.take j) now).length]? = some x := by
  have e : oldL L now = oldL (L.take (j + 1)) now ++ oldL (L.drop (j + 1)) now := by
    unfold oldL
    rw [← List.filter_append, List.take_append_drop]
  rw [e, (old_take h hu).2, List.append_assoc, List.getElem?_append_right (Nat.le_refl _), Nat.sub_self]
  rfl
theorem old_take_len (L : List Rx) (j : Nat) : (oldL (L.take j) now).length ≤ j := by
  have := List.length_filter_le (fun x : Rx => !decide (now < x.u)) (L.take j)
  rw [List.length_take] at this
  unfold oldL
  omega
end Go.Proofs.YthjeeianlgkaaaaDoor
