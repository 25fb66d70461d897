/-
  What is left of frames' bytes behind a Take. Of whatever program.
-/
import Derived.Test.YtfphoaphdfhhiaaDoorBase
namespace Go.Proofs.YtfphoaphdfhhiaaDoor

def leftN : List (List Int) → Nat → List (List Int)
  | [], _ => []
  | r :: rs, n => (if r.length ≤ n then [] else [r.drop n]) ++ leftN rs (n - r.length)
theorem leftN_nil (n : Nat) : leftN [] n = [] := rfl
theorem leftN_cons (r : List Int) (rs : List (List Int)) (n : Nat) : leftN (r :: rs) n = (if r.length ≤ n then [] else [r.drop n]) ++ leftN rs (n - r.length) := rfl
theorem leftN_append (a b : List (List Int)) (n : Nat) : leftN (a ++ b) n = leftN a n ++ leftN b (n - a.flatten.length) := by
  induction a generalizing n with
  | nil => simp [leftN_nil]
  | cons r a ih =>
    rw [List.cons_append, leftN_cons, ih, leftN_cons, List.append_assoc, List.flatten_cons, List.length_append, Nat.sub_sub]
theorem leftN_flatten (rs : List (List Int)) (n : Nat) : (leftN rs n).flatten = rs.flatten.drop n := by
  induction rs generalizing n with
  | nil => simp [leftN_nil]
  | cons r rs ih =>
    rw [leftN_cons, List.flatten_append, ih, List.flatten_cons, List.drop_append]
    congr 1
    split
    · rename_i h; rw [List.drop_of_length_le h]; rfl
    · simp
theorem leftN_ne (rs : List (List Int)) (n : Nat) : ∀ r ∈ leftN rs n, r ≠ [] := by
  induction rs generalizing n with
  | nil => intro r hr; cases hr
  | cons r rs ih =>
    intro x hx
    rw [leftN_cons, List.mem_append] at hx
    rcases hx with hx | hx
    · split at hx
      · cases hx
      · rename_i h
        rw [List.mem_singleton] at hx
        subst hx
        intro e
        have := congrArg List.length e
        simp only [List.length_drop, List.length_nil] at this
        omega
    · exact ih _ x hx
theorem leftN_zero (rs : List (List Int)) (h : ∀ r ∈ rs, r ≠ []) : leftN rs 0 = rs := by
  induction rs with
  | nil => rfl
  | cons r rs ih =>
    have hr : ¬ r.length ≤ 0 := fun e => h r List.mem_cons_self (List.eq_nil_of_length_eq_zero (by omega))
    rw [leftN_cons, if_neg hr, Nat.zero_sub, ih (fun x hx => h x (List.mem_cons_of_mem _ hx))]
    rfl
theorem leftN_leftN (rs : List (List Int)) (t k : Nat) : leftN (leftN rs t) k = leftN rs (t + k) := by
  induction rs generalizing t k with
  | nil => rfl
  | cons r rs ih =>
    rw [leftN_cons, leftN_append, ih, leftN_cons]
    by_cases h : r.length ≤ t
    · rw [if_pos h, if_pos (by omega), leftN_nil]
      congr 2
      simp only [List.flatten_nil, List.length_nil]
      omega
    · rw [if_neg h, leftN_cons, leftN_nil, List.append_nil, List.length_drop, List.drop_drop]
      congr 1
      · by_cases h' : r.length ≤ t + k
        · rw [if_pos h', if_pos (by omega)]
        · rw [if_neg h', if_neg (by omega)]
      · congr 1
        simp only [List.flatten_cons, List.flatten_nil, List.append_nil, List.length_drop]
        omega
theorem take_leftN (rs : List (List Int)) (t k : Nat) : rs.flatten.take t ++ (leftN rs t).flatten.take k = rs.flatten.take (t + k) := by
  rw [leftN_flatten, List.take_add]
end Go.Proofs.YtfphoaphdfhhiaaDoor
