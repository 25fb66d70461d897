/-
  Where frames end, and how many wait: lists alone.
-/
import Derived.Test.YtmlkhgcebmhodaaDoorOutP
namespace Go.Proofs.YtmlkhgcebmhodaaDoor

/-- where each frame ends, in all the bytes -/
def endsOf : List (List Int) → Nat → List Nat
  | [], _ => []
  | r :: rs, s => (s + r.length) :: endsOf rs (s + r.length)
theorem endsOf_length (rs : List (List Int)) (s : Nat) : (endsOf rs s).length = rs.length := by
  induction rs generalizing s with
  | nil => rfl
  | cons r rs ih => simp [endsOf, ih]
theorem endsOf_snoc (rs : List (List Int)) (r : List Int) (s : Nat) : endsOf (rs ++ [r]) s = endsOf rs s ++ [s + (rs ++ [r]).flatten.length] := by
  induction rs generalizing s with
  | nil => simp [endsOf]
  | cons x rs ih => simp [endsOf, ih, Nat.add_assoc]
theorem endsOf_le (rs : List (List Int)) (s : Nat) : ∀ e ∈ endsOf rs s, e ≤ s + rs.flatten.length := by
  induction rs generalizing s with
  | nil => intro e he; cases he
  | cons r rs ih =>
    intro e he
    rcases List.mem_cons.1 he with rfl | he
    · simp
    · have := ih _ e he
      rw [List.flatten_cons, List.length_append]
      omega
/-- of the first k, how many end behind t -/
def cnt (es : List Nat) (t k : Nat) : Nat := ((es.take k).filter fun e => decide (t < e)).length
theorem cnt_zero (es : List Nat) (t : Nat) : cnt es t 0 = 0 := by simp [cnt]
theorem cnt_le (es : List Nat) (t k : Nat) : cnt es t k ≤ k := by
  refine Nat.le_trans (List.length_filter_le _ _) ?_
  rw [List.length_take]
  exact Nat.min_le_left _ _
theorem cnt_yes (es : List Nat) (t k e : Nat) (h : es[k]? = some e) (he : t < e) : cnt es t (k + 1) = cnt es t k + 1 := by
  unfold cnt
  rw [List.take_add_one, h, Option.toList_some, List.filter_append, List.length_append]
  simp [he]
theorem cnt_no (es : List Nat) (t k e : Nat) (h : es[k]? = some e) (he : ¬ t < e) : cnt es t (k + 1) = cnt es t k := by
  unfold cnt
  rw [List.take_add_one, h, Option.toList_some, List.filter_append, List.length_append]
  simp [he]
theorem leftN_count (rs : List (List Int)) (h : ∀ r ∈ rs, r ≠ []) (n s : Nat) : (leftN rs (n - s)).length = ((endsOf rs s).filter fun e => decide (n < e)).length := by
  induction rs generalizing s with
  | nil => rfl
  | cons r rs ih =>
    have hr : 0 < r.length := List.length_pos_iff.2 (h r (List.mem_cons_self ..))
    rw [leftN_cons, List.length_append, Nat.sub_sub, ih (fun x hx => h x (List.mem_cons_of_mem _ hx)) (s + r.length), endsOf, List.filter_cons]
    by_cases hc : r.length ≤ n - s
    · rw [if_pos hc, if_neg (by simp; omega)]
      simp
    · rw [if_neg hc, if_pos (by simp; omega)]
      simp
      omega
theorem waits_all (rs : List (List Int)) (h : ∀ r ∈ rs, r ≠ []) (t : Nat) : cnt (endsOf rs 0) t rs.length = (leftN rs t).length := by
  have := leftN_count rs h t 0
  rw [Nat.sub_zero] at this
  rw [this, cnt, List.take_of_length_le (by rw [endsOf_length]; exact Nat.le_refl _)]
end Go.Proofs.YtmlkhgcebmhodaaDoor
