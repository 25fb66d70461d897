/-
  what a lane holds behind tickets that it took, in numbers; of whatever program
-/
import Derived.Test.YtccbhmmonaaikaaDoorLnP
namespace Go.Proofs.YtccbhmmonaaikaaDoor
open Go.RowKit

def sumG (T : List Tk) (s : Nat) : Nat := ((T.filter (isT 3 s)).map (·.v)).sum
def outT (T : List Tk) (t : Tk) : Tk := if t.k = 3 then { t with v := sumG T t.s } else t
def drn (T0 : List Tk) : List Tk → List Tk → List Tk
  | _, [] => []
  | pre, t :: r => if t.k = 3 ∧ pre.any (isT 3 t.s) = true then drn T0 (pre ++ [t]) r else outT T0 t :: drn T0 (pre ++ [t]) r
theorem outT_k (T : List Tk) (t : Tk) : (outT T t).k = t.k ∧ (outT T t).s = t.s := by
  unfold outT; split <;> exact ⟨rfl, rfl⟩
theorem sumG_snoc (T : List Tk) (t : Tk) (s : Nat) : sumG (T ++ [t]) s = sumG T s + if isT 3 s t then t.v else 0 := by
  unfold sumG
  rw [List.filter_append, List.map_append, List.sum_append]
  cases h : isT 3 s t <;> simp [h]
theorem sumG_none (T : List Tk) (s : Nat) (h : T.any (isT 3 s) = false) : sumG T s = 0 := by
  unfold sumG
  have : T.filter (isT 3 s) = [] := by
    rw [List.filter_eq_nil_iff]
    intro x hx hc
    have := List.any_eq_false.1 h x hx
    exact this hc
  rw [this]
  rfl
theorem drn_snoc (T0 : List Tk) (t : Tk) (suf pre : List Tk) : drn T0 pre (suf ++ [t]) = drn T0 pre suf ++ if t.k = 3 ∧ (pre ++ suf).any (isT 3 t.s) = true then [] else [outT T0 t] := by
  induction suf generalizing pre with
  | nil =>
    rw [List.nil_append, List.append_nil]
    unfold drn
    split <;> simp [drn]
  | cons u r ih =>
    rw [List.cons_append]
    unfold drn
    rw [ih (pre ++ [u]), List.append_assoc, List.singleton_append]
    split <;> simp
/-- a grant more in the whole -/
def growG (s n : Nat) (x : Tk) : Tk := if isT 3 s x then { x with v := n } else x
theorem drn_more (T0 : List Tk) (t : Tk) (suf pre : List Tk) : drn (T0 ++ [t]) pre suf = (drn T0 pre suf).map fun x => if t.k = 3 then growG t.s (sumG (T0 ++ [t]) t.s) x else x := by
  induction suf generalizing pre with
  | nil => rfl
  | cons u r ih =>
    unfold drn
    have ho : outT (T0 ++ [t]) u = if t.k = 3 then growG t.s (sumG (T0 ++ [t]) t.s) (outT T0 u) else outT T0 u := by
      by_cases h3 : t.k = 3
      · rw [if_pos h3]
        unfold growG outT
        by_cases hu : u.k = 3
        · rw [if_pos hu, if_pos hu]
          by_cases hs : u.s = t.s
          · have hT : isT 3 t.s { u with v := sumG T0 u.s } = true := isT_iff.2 ⟨hu, hs⟩
            rw [if_pos hT, hs]
          · have hT : ¬ isT 3 t.s { u with v := sumG T0 u.s } = true := fun h => hs (isT_iff.1 h).2
            rw [if_neg hT, sumG_snoc, if_neg (fun h => hs ((isT_iff.1 h).2).symm), Nat.add_zero]
        · rw [if_neg hu, if_neg hu, if_neg (fun h => hu (isT_iff.1 h).1)]
      · rw [if_neg h3]
        unfold outT
        by_cases hu : u.k = 3
        · rw [if_pos hu, if_pos hu, sumG_snoc, if_neg (fun h => h3 (isT_iff.1 h).1), Nat.add_zero]
        · rw [if_neg hu, if_neg hu]
    split
    · exact ih _
    · rw [List.map_cons, ih, ho]
theorem drn_mem (T0 : List Tk) (suf pre : List Tk) (x : Tk) (h : x ∈ drn T0 pre suf) (h3 : x.k = 3) : x.v = sumG T0 x.s ∧ suf.any (isT 3 x.s) = true := by
  induction suf generalizing pre with
  | nil => cases h
  | cons u r ih =>
    unfold drn at h
    split at h
    · obtain ⟨a, b⟩ := ih _ h
      exact ⟨a, by rw [List.any_cons, b, Bool.or_true]⟩
    · rcases List.mem_cons.1 h with rfl | h
      · obtain ⟨e1, e2⟩ := outT_k T0 u
        have hu : u.k = 3 := e1 ▸ h3
        refine ⟨by unfold outT; rw [if_pos hu], ?_⟩
        rw [List.any_cons, e2, isT_iff.2 ⟨hu, rfl⟩, Bool.true_or]
      · obtain ⟨a, b⟩ := ih _ h
        exact ⟨a, by rw [List.any_cons, b, Bool.or_true]⟩
theorem drn_has (T0 : List Tk) (suf pre : List Tk) (s : Nat) (h : suf.any (isT 3 s) = true) (hp : pre.any (isT 3 s) = false) : ∃ x ∈ drn T0 pre suf, isT 3 s x = true := by
  induction suf generalizing pre with
  | nil => cases h
  | cons u r ih =>
    unfold drn
    by_cases hu : isT 3 s u = true
    · obtain ⟨a, b⟩ := isT_iff.1 hu
      rw [if_neg (by rw [b, hp]; simp)]
      obtain ⟨e1, e2⟩ := outT_k T0 u
      exact ⟨_, List.mem_cons_self, isT_iff.2 ⟨e1.trans a, e2.trans b⟩⟩
    · have hu' : isT 3 s u = false := by simpa using hu
      rw [List.any_cons, hu', Bool.false_or] at h
      obtain ⟨x, hx, hxs⟩ := ih (pre ++ [u]) h (by rw [List.any_append, hp]; simp [hu'])
      split
      · exact ⟨x, hx, hxs⟩
      · exact ⟨x, List.mem_cons_of_mem _ hx, hxs⟩
/-- a ticket that a lane takes -/
theorem putL_takes (T : List Tk) (t : Tk) (h : (putL (drn T [] T) t).2 = 0) : (putL (drn T [] T) t).1 = drn (T ++ [t]) [] (T ++ [t]) := by
  rw [drn_snoc, drn_more, List.nil_append]
  unfold putL at h ⊢
  by_cases hm : mayT t ≠ 0
  · rw [if_pos hm] at h
    exact absurd h hm
  rw [if_neg hm] at h ⊢
  by_cases h3 : t.k = 3
  · simp only [h3, if_true, true_and]
    have hsg : ¬ ¬ Single t.k := by rw [h3]; unfold Single; omega
    rw [if_neg (h3 ▸ hsg)]
    rw [if_neg hsg] at h
    cases hf : (drn T [] T).find? (isT 3 t.s) with
    | none =>
      rw [List.find?_eq_none] at hf
      have hT : T.any (isT 3 t.s) = false := by
        cases hc : T.any (isT 3 t.s) with
        | false => rfl
        | true =>
          obtain ⟨x, hx, hxs⟩ := drn_has T T [] t.s hc rfl
          exact absurd hxs (hf x hx)
      simp only
      rw [if_neg (by rw [hT]; simp)]
      have e1 : (drn T [] T).map (fun x => growG t.s (sumG (T ++ [t]) t.s) x) = drn T [] T := by
        conv => rhs; rw [← List.map_id (drn T [] T)]
        refine List.map_congr_left fun x hx => ?_
        unfold growG
        rw [if_neg (hf x hx)]
        rfl
      have e2 : outT (T ++ [t]) t = t := by
        unfold outT
        rw [if_pos h3, sumG_snoc, sumG_none T t.s hT, if_pos (isT_iff.2 ⟨h3, rfl⟩), Nat.zero_add]
      rw [e1, e2]
    | some u =>
      have hu := List.find?_some hf
      have hm' := List.mem_of_find?_eq_some hf
      obtain ⟨a, b⟩ := isT_iff.1 hu
      obtain ⟨c, d⟩ := drn_mem T T [] u hm' a
      rw [h3, hf] at h
      simp only [ne_eq, not_true_eq_false, if_false] at h ⊢
      rw [b] at c d
      by_cases ho : 4294967295 < u.v + t.v
      · rw [if_pos ho] at h
        cases h
      · rw [if_neg ho, if_pos d, List.append_nil]
        simp only
        refine List.map_congr_left fun x hx => ?_
        unfold growG
        rw [sumG_snoc, if_pos (isT_iff.2 ⟨h3, rfl⟩), c]
  · simp only [h3, if_false, false_and, List.map_id']
    have e2 : outT (T ++ [t]) t = t := by unfold outT; rw [if_neg h3]
    rw [e2]
    by_cases hs : ¬ Single t.k
    · rw [if_pos hs]
    · rw [if_neg hs] at h ⊢
      cases hf : (drn T [] T).find? (isT t.k t.s) with
      | none => rfl
      | some u =>
        rw [hf] at h
        simp only [ne_eq, h3, not_false_eq_true, if_true] at h
        cases h
end Go.Proofs.YtccbhmmonaaikaaDoor
