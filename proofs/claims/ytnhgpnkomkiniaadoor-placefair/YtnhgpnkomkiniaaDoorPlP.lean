/-
  Which connection takes a stream, in lists of loads. Of whatever program.
-/
import Derived.Test.YtnhgpnkomkiniaaDoorOpenLd
namespace Go.Proofs.YtnhgpnkomkiniaaDoor

/-- may it take a stream? -/
def LoadV.may (most : Int) (z : LoadV) : Bool := z.live && !z.drain && decide (z.opn < most) && decide (1 ≤ z.left)
/-- what hinders it -/
def hN (most : Int) (z : LoadV) : Int := if z.live = false then 4 else if z.drain = true then 3 else if most ≤ z.opn then 2 else if z.left < 1 then 1 else 0
theorem hN_may {most : Int} {z : LoadV} : z.may most = true ↔ hN most z = 0 := by
  obtain ⟨l, d, o, f⟩ := z
  unfold LoadV.may hN
  cases l <;> cases d <;> simp
  · constructor
    · rintro ⟨h1, h2⟩
      rw [if_neg (by omega), if_neg (by omega)]
    · intro h
      split at h
      · cases h
      · split at h
        · cases h
        · omega
theorem hN_mem {most : Int} {z : LoadV} : hN most z = 0 ∨ hN most z = 1 ∨ hN most z = 2 ∨ hN most z = 3 ∨ hN most z = 4 := by
  unfold hN
  split
  · simp
  split
  · simp
  split
  · simp
  split <;> simp
/-- the one is less than the other -/
def lessB (most : Int) (a b : LoadV) : Bool := decide (hN most a < hN most b) || (decide (hN most a = hN most b) && decide (a.opn < b.opn))
theorem lessB_iff {most : Int} {a b : LoadV} : lessB most a b = true ↔ hN most a < hN most b ∨ hN most a = hN most b ∧ a.opn < b.opn := by
  unfold lessB; simp
theorem lessB_not {most : Int} {a b : LoadV} : lessB most a b = false ↔ ¬ (hN most a < hN most b ∨ hN most a = hN most b ∧ a.opn < b.opn) := by
  rw [← lessB_iff]; simp
/-- the first least of the first k -/
def Lst (most : Int) (zs : List LoadV) (k : Nat) (i : Int) : Prop :=
  (k = 0 ∧ i = -1) ∨ ∃ a : Nat, i = a ∧ a < k ∧ ∃ z, zs[a]? = some z ∧ ∀ j y, j < k → zs[j]? = some y → ¬ (hN most y < hN most z ∨ hN most y = hN most z ∧ y.opn < z.opn) ∧ (j < a → hN most z < hN most y ∨ hN most z = hN most y ∧ z.opn < y.opn)
theorem Lst.first {most : Int} {zs : List LoadV} {z : LoadV} (h : zs[0]? = some z) : Lst most zs 1 0 := by
  refine .inr ⟨0, rfl, by omega, z, h, fun j y hj hy => ?_⟩
  obtain rfl : j = 0 := by omega
  rw [h] at hy
  cases hy
  exact ⟨by omega, by omega⟩
theorem Lst.stay {most : Int} {zs : List LoadV} {k a : Nat} {z y : LoadV} (h : Lst most zs k (a : Int)) (ha : zs[a]? = some z) (hk : zs[k]? = some y) (hl : lessB most y z = false) : Lst most zs (k + 1) (a : Int) := by
  rcases h with ⟨_, h⟩ | ⟨a', e, hlt, z', hz, h⟩
  · omega
  · obtain rfl : a = a' := by omega
    rw [ha] at hz; cases hz
    refine .inr ⟨a, rfl, by omega, z, ha, fun j x hj hx => ?_⟩
    rcases Nat.lt_or_ge j k with h1 | h1
    · exact h j x h1 hx
    · obtain rfl : j = k := by omega
      rw [hk] at hx; cases hx
      exact ⟨lessB_not.1 hl, by omega⟩
theorem Lst.move {most : Int} {zs : List LoadV} {k a : Nat} {z y : LoadV} (h : Lst most zs k (a : Int)) (ha : zs[a]? = some z) (hk : zs[k]? = some y) (hl : lessB most y z = true) : Lst most zs (k + 1) (k : Int) := by
  have hl' := lessB_iff.1 hl
  rcases h with ⟨_, h⟩ | ⟨a', e, hlt, z', hz, h⟩
  · omega
  · obtain rfl : a = a' := by omega
    rw [ha] at hz; cases hz
    refine .inr ⟨k, rfl, by omega, y, hk, fun j x hj hx => ?_⟩
    rcases Nat.lt_or_ge j k with h1 | h1
    · have := (h j x h1 hx).1
      exact ⟨by omega, fun _ => by omega⟩
    · obtain rfl : j = k := by omega
      rw [hk] at hx; cases hx
      exact ⟨by omega, by omega⟩
/-- k is the one that is picked -/
def IsPick (most : Int) (zs : List LoadV) (k : Nat) : Prop := ∃ z, zs[k]? = some z ∧ z.may most = true ∧ ∀ j y, zs[j]? = some y → y.may most = true → z.opn < y.opn ∨ (z.opn = y.opn ∧ k ≤ j)
theorem IsPick.only {most : Int} {zs : List LoadV} {k k' : Nat} (h : IsPick most zs k) (h' : IsPick most zs k') : k = k' := by
  obtain ⟨z, e, m, h⟩ := h
  obtain ⟨z', e', m', h'⟩ := h'
  have a := h k' z' e' m'
  have b := h' k z e m
  omega
def NoneMay (most : Int) (zs : List LoadV) : Prop := ∀ z ∈ zs, z.may most = false
/-- the error's number, where none may -/
def whyN (most : Int) (zs : List LoadV) : Int := if zs.any (fun z => z.live) = false then 35 else if zs.any (fun z => z.live && !z.drain) = false then 36 else if zs.any (fun z => z.live && !z.drain && decide (z.opn < most)) = false then 31 else 32
/-- the error's number of a hindrance -/
def errN (h : Int) : Int := if h = 4 then 35 else if h = 3 then 36 else if h = 2 then 31 else if h = 1 then 32 else 0
theorem hN_live {most : Int} {z : LoadV} : z.live = true ↔ hN most z < 4 := by
  obtain ⟨l, d, o, f⟩ := z
  unfold hN
  cases l
  · simp
  · simp only [Bool.true_eq_false, if_false, true_iff]
    split
    · decide
    split
    · decide
    split <;> decide
theorem hN_open {most : Int} {z : LoadV} : (z.live && !z.drain) = true ↔ hN most z < 3 := by
  obtain ⟨l, d, o, f⟩ := z
  unfold hN
  cases l <;> cases d
  · simp
  · simp
  · simp only [Bool.true_eq_false, if_false, Bool.false_eq_true, Bool.not_false, Bool.and_self, true_iff]
    split
    · decide
    split <;> decide
  · simp
theorem hN_few {most : Int} {z : LoadV} : (z.live && !z.drain && decide (z.opn < most)) = true ↔ hN most z < 2 := by
  obtain ⟨l, d, o, f⟩ := z
  unfold hN
  cases l <;> cases d
  · simp
  · simp
  · simp only [Bool.true_eq_false, if_false, Bool.false_eq_true, Bool.not_false, Bool.and_self, Bool.true_and, decide_eq_true_eq]
    by_cases h : most ≤ o
    · rw [if_pos h]; exact ⟨fun _ => by omega, fun h' => by omega⟩
    · rw [if_neg h]; exact ⟨fun _ => by split <;> decide, fun _ => by omega⟩
  · simp
theorem any_iff {zs : List LoadV} {p : LoadV → Bool} : zs.any p = false ↔ ∀ z ∈ zs, p z = false := by
  simp
/-- what the first least says of them all -/
theorem Lst.none {most : Int} {zs : List LoadV} {a : Nat} {z : LoadV} (h : Lst most zs zs.length (a : Int)) (ha : zs[a]? = some z) (hz : hN most z ≠ 0) : NoneMay most zs ∧ whyN most zs = errN (hN most z) := by
  rcases h with ⟨_, h⟩ | ⟨a', e, hlt, z', hz', h⟩
  · omega
  obtain rfl : a = a' := by omega
  rw [ha] at hz'; cases hz'
  have ge : ∀ y ∈ zs, hN most z ≤ hN most y := fun y hy => by
    obtain ⟨j, hj⟩ := List.mem_iff_getElem?.1 hy
    have := (h j y (List.getElem?_eq_some_iff.1 hj).1 hj).1
    omega
  have hm := List.mem_of_getElem? ha
  have z0 := hN_mem (most := most) (z := z)
  refine ⟨fun y hy => ?_, ?_⟩
  · refine Bool.eq_false_iff.2 fun hh => ?_
    have := hN_may.1 hh
    have := ge y hy
    omega
  · unfold whyN errN
    by_cases h4 : hN most z = 4
    · rw [if_pos (any_iff.2 fun y hy => Bool.eq_false_iff.2 fun hh => by have := (hN_live (most := most)).1 hh; have := ge y hy; omega), if_pos h4]
    rw [if_neg (fun hh => by have := any_iff.1 hh z hm; rw [(hN_live (most := most)).2 (by omega)] at this; cases this), if_neg h4]
    by_cases h3 : hN most z = 3
    · rw [if_pos (any_iff.2 fun y hy => Bool.eq_false_iff.2 fun hh => by have := (hN_open (most := most)).1 hh; have := ge y hy; omega), if_pos h3]
    rw [if_neg (fun hh => by have := any_iff.1 hh z hm; rw [(hN_open (most := most)).2 (by omega)] at this; cases this), if_neg h3]
    by_cases h2 : hN most z = 2
    · rw [if_pos (any_iff.2 fun y hy => Bool.eq_false_iff.2 fun hh => by have := (hN_few (most := most)).1 hh; have := ge y hy; omega), if_pos h2]
    rw [if_neg (fun hh => by have := any_iff.1 hh z hm; rw [(hN_few (most := most)).2 (by omega)] at this; cases this), if_neg h2, if_pos (by omega)]
theorem Lst.pick {most : Int} {zs : List LoadV} {a : Nat} {z : LoadV} (h : Lst most zs zs.length (a : Int)) (ha : zs[a]? = some z) (hz : hN most z = 0) : IsPick most zs a := by
  rcases h with ⟨_, h⟩ | ⟨a', e, hlt, z', hz', h⟩
  · omega
  obtain rfl : a = a' := by omega
  rw [ha] at hz'; cases hz'
  refine ⟨z, ha, hN_may.2 hz, fun j y hj hy => ?_⟩
  have h1 := h j y (List.getElem?_eq_some_iff.1 hj).1 hj
  have h2 := hN_may.1 hy
  omega
theorem NoneMay.nil {most : Int} : NoneMay most [] ∧ whyN most [] = 35 := ⟨fun _ h => (by cases h), rfl⟩
theorem NoneMay.not {most : Int} {zs : List LoadV} {k : Nat} (h : NoneMay most zs) (p : IsPick most zs k) : False := by
  obtain ⟨z, e, m, _⟩ := p
  rw [h z (List.mem_of_getElem? e)] at m
  cases m
end Go.Proofs.YtnhgpnkomkiniaaDoor
