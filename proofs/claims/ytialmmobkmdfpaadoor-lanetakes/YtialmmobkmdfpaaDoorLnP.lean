/-
  package lane in numbers: tickets, which may be, what a lane holds; of whatever program
-/
import Derived.Test.YtialmmobkmdfpaaDoorSnA
namespace Go.Proofs.YtialmmobkmdfpaaDoor
open Go.RowKit

structure Tk where
  k : Int
  s : Nat
  v : Nat
deriving DecidableEq

def Wd (k : Int) (s : Nat) : Prop := (-9223372036854775808 ≤ k ∧ k ≤ 9223372036854775807) ∧ s ≤ 4294967295
structure Tk.Wide (t : Tk) : Prop where
  k0 : -9223372036854775808 ≤ t.k
  k1 : t.k ≤ 9223372036854775807
  s1 : t.s ≤ 4294967295
  v1 : t.v ≤ 4294967295
theorem Tk.Wide.wd {t : Tk} (h : t.Wide) : Wd t.k t.s := ⟨⟨h.k0, h.k1⟩, h.s1⟩

/-- the error's number of a ticket; 0: it may be -/
def mayT (t : Tk) : Nat :=
  if t.k < 1 ∨ 7 < t.k then 12
  else if ¬ (t.s = 0 ↔ 5 ≤ t.k) then 14
  else if (t.k = 3 ∧ t.v = 0) ∨ ((t.k = 1 ∨ t.k = 2 ∨ t.k = 4) ∧ t.v ≠ 0) ∨ (t.k = 7 ∧ 2 < t.v) then 15 else 0

def isT (k : Int) (s : Nat) (t : Tk) : Bool := decide (t.k = k) && decide (t.s = s)
theorem isT_iff {k : Int} {s : Nat} {t : Tk} : isT k s t = true ↔ t.k = k ∧ t.s = s := by simp [isT]

/-- kinds of which one is enough -/
def Single (k : Int) : Prop := k ≠ 5 ∧ k ≠ 6
instance (k : Int) : Decidable (Single k) := inferInstanceAs (Decidable (_ ∧ _))

theorem may_range {t : Tk} (h : mayT t = 0) : 1 ≤ t.k ∧ t.k ≤ 7 := by
  unfold mayT at h
  split at h
  · cases h
  · omega

/-- what a lane holds: boxes and their tickets -/
abbrev Zs := List (Nat × Tk)
/-- no two of a kind of which one is enough -/
def Uniq (Z : Zs) : Prop := Z.Pairwise (fun x y => x.2.k = y.2.k → x.2.s = y.2.s → ¬ Single x.2.k)
structure ZOk (Z : Zs) : Prop where
  nodup : (Z.map (·.1)).Nodup
  uniq : Uniq Z
  may : ∀ x ∈ Z, mayT x.2 = 0 ∧ x.2.Wide

/-- what the table of single tickets holds -/
def Holds1 (F : Int → Nat → Option Nat) (Z : Zs) : Prop := ∀ k s, Wd k s → ∀ b, F k s = some b ↔ (Single k ∧ ∃ u, (b, u) ∈ Z ∧ u.k = k ∧ u.s = s)

theorem uniq_eq {Z : Zs} (h : Uniq Z) {x y : Nat × Tk} (hx : x ∈ Z) (hy : y ∈ Z) (hk : x.2.k = y.2.k) (hs : x.2.s = y.2.s) (h1 : Single x.2.k) : x = y := by
  induction Z with
  | nil => cases hx
  | cons z Z ih =>
    obtain ⟨h2, h3⟩ := List.pairwise_cons.1 h
    rcases List.mem_cons.1 hx with rfl | hx' <;> rcases List.mem_cons.1 hy with rfl | hy'
    · rfl
    · exact absurd h1 (h2 y hy' hk hs)
    · exact absurd (hk ▸ h1) (h2 x hx' hk.symm hs.symm)
    · exact ih h3 hx' hy'

theorem box_eq {Z : Zs} (h : (Z.map (·.1)).Nodup) {x y : Nat × Tk} (hx : x ∈ Z) (hy : y ∈ Z) (he : x.1 = y.1) : x = y := by
  induction Z with
  | nil => cases hx
  | cons z Z ih =>
    obtain ⟨h2, h3⟩ := List.nodup_cons.1 h
    rcases List.mem_cons.1 hx with rfl | hx' <;> rcases List.mem_cons.1 hy with rfl | hy'
    · rfl
    · exact absurd (List.mem_map.2 ⟨y, hy', he.symm⟩) h2
    · exact absurd (List.mem_map.2 ⟨x, hx', he⟩) h2
    · exact ih h3 hx' hy'

theorem holds_nil : Holds1 (fun _ _ => none) [] := fun k s _ b => ⟨fun h => (by cases h), fun ⟨_, u, h, _⟩ => by cases h⟩
theorem zok_nil : ZOk [] := ⟨List.nodup_nil, List.Pairwise.nil, fun _ h => by cases h⟩

def setF (F : Int → Nat → Option Nat) (k : Int) (s : Nat) (o : Option Nat) : Int → Nat → Option Nat := fun k' s' => if k' = k ∧ s' = s then o else F k' s'

/-- a ticket more, of a kind of which one is enough -/
theorem holds_one {F : Int → Nat → Option Nat} {Z : Zs} (h : Holds1 F Z) (b : Nat) (t : Tk) (h1 : Single t.k) (hn : F t.k t.s = none) : Holds1 (setF F t.k t.s (some b)) (Z ++ [(b, t)]) := by
  intro k s hks b'
  unfold setF
  split
  · rename_i e
    obtain ⟨rfl, rfl⟩ := e
    constructor
    · intro e
      cases e
      exact ⟨h1, t, by simp, rfl, rfl⟩
    · rintro ⟨_, u, hu, hk, hs⟩
      rcases List.mem_append.1 hu with hu | hu
      · have := (h t.k t.s hks b').2 ⟨h1, u, hu, hk, hs⟩
        rw [hn] at this
        cases this
      · simp only [List.mem_singleton, Prod.mk.injEq] at hu
        rw [hu.1]
  · rename_i e
    rw [h k s hks b']
    constructor
    · rintro ⟨a, u, hu, hk⟩
      exact ⟨a, u, List.mem_append_left _ hu, hk⟩
    · rintro ⟨a, u, hu, hk, hs⟩
      rcases List.mem_append.1 hu with hu | hu
      · exact ⟨a, u, hu, hk, hs⟩
      · simp only [List.mem_singleton, Prod.mk.injEq] at hu
        rw [hu.2] at hk hs
        exact absurd ⟨hk.symm, hs.symm⟩ e
/-- .. of a ping or a pong -/
theorem holds_many {F : Int → Nat → Option Nat} {Z : Zs} (h : Holds1 F Z) (b : Nat) (t : Tk) (h1 : ¬ Single t.k) : Holds1 F (Z ++ [(b, t)]) := by
  intro k s hks b'
  rw [h k s hks b']
  constructor
  · rintro ⟨a, u, hu, hk⟩
    exact ⟨a, u, List.mem_append_left _ hu, hk⟩
  · rintro ⟨a, u, hu, hk, hs⟩
    rcases List.mem_append.1 hu with hu | hu
    · exact ⟨a, u, hu, hk, hs⟩
    · simp only [List.mem_singleton, Prod.mk.injEq] at hu
      rw [hu.2] at hk
      exact absurd (hk ▸ a) h1
theorem zok_more {F : Int → Nat → Option Nat} {Z : Zs} (h : ZOk Z) (hF : Holds1 F Z) (b : Nat) (t : Tk) (hb : b ∉ Z.map (·.1)) (hw : t.Wide) (hm : mayT t = 0) (h1 : Single t.k → F t.k t.s = none) : ZOk (Z ++ [(b, t)]) := by
  refine ⟨?_, ?_, ?_⟩
  · rw [List.map_append, List.nodup_append]
    refine ⟨h.nodup, by simp, fun a ha c hc => ?_⟩
    simp only [List.map_cons, List.map_nil, List.mem_singleton] at hc
    subst hc
    exact fun e => hb (e ▸ ha)
  · refine List.pairwise_append.2 ⟨h.uniq, List.pairwise_singleton _ _, fun x hx y hy => ?_⟩
    simp only [List.mem_singleton] at hy
    subst hy
    intro hk hs hsg
    have := (hF t.k t.s hw.wd x.1).2 ⟨hk ▸ hsg, x.2, hx, hk, hs⟩
    rw [h1 (hk ▸ hsg)] at this
    cases this
  · intro x hx
    rcases List.mem_append.1 hx with hx | hx
    · exact h.may x hx
    · simp only [List.mem_singleton] at hx
      subst hx
      exact ⟨hm, hw⟩

/-- a grant grows where it stands -/
def grow (Z : Zs) (b n : Nat) : Zs := Z.map fun x => if x.1 = b then (x.1, { x.2 with v := n }) else x
theorem grow_fst (Z : Zs) (b n : Nat) : (grow Z b n).map (·.1) = Z.map (·.1) := by
  unfold grow
  rw [List.map_map]
  refine List.map_congr_left fun x _ => ?_
  simp only [Function.comp]
  split <;> rfl
theorem grow_len (Z : Zs) (b n : Nat) : (grow Z b n).length = Z.length := by simp [grow]
theorem mem_grow {Z : Zs} {b n c : Nat} {k : Int} {s : Nat} : (∃ u, (c, u) ∈ grow Z b n ∧ u.k = k ∧ u.s = s) ↔ ∃ u, (c, u) ∈ Z ∧ u.k = k ∧ u.s = s := by
  constructor
  · rintro ⟨u, hu, hk, hs⟩
    obtain ⟨x, hx, he⟩ := List.mem_map.1 hu
    split at he
    · obtain ⟨rfl, rfl⟩ := Prod.mk.injEq .. ▸ he
      exact ⟨x.2, hx, hk, hs⟩
    · subst he
      exact ⟨u, hx, hk, hs⟩
  · rintro ⟨u, hu, hk, hs⟩
    by_cases e : c = b
    · exact ⟨{ u with v := n }, List.mem_map.2 ⟨_, hu, by rw [if_pos e]⟩, hk, hs⟩
    · exact ⟨u, List.mem_map.2 ⟨_, hu, by rw [if_neg e]⟩, hk, hs⟩
theorem holds_grow {F : Int → Nat → Option Nat} {Z : Zs} (h : Holds1 F Z) (b n : Nat) : Holds1 F (grow Z b n) := by
  intro k s hks c
  rw [h k s hks c, mem_grow]
theorem zok_grow {Z : Zs} (h : ZOk Z) {b n : Nat} {u : Tk} (hu : (b, u) ∈ Z) (hk : u.k = 3) (h0 : 0 < n) (hn : n ≤ 4294967295) : ZOk (grow Z b n) := by
  refine ⟨by rw [grow_fst]; exact h.nodup, ?_, ?_⟩
  · unfold Uniq grow
    rw [List.pairwise_map]
    refine List.Pairwise.imp ?_ h.uniq
    intro x y hxy
    split <;> split <;> exact hxy
  · intro x hx
    obtain ⟨y, hy, rfl⟩ := List.mem_map.1 hx
    split
    · rename_i e
      obtain rfl : y = (b, u) := box_eq h.nodup hy hu e
      obtain ⟨m1, m2⟩ := h.may _ hu
      refine ⟨?_, m2.k0, m2.k1, m2.s1, hn⟩
      unfold mayT at m1 ⊢
      simp only [hk] at m1 ⊢
      split at m1
      · cases m1
      · split at m1
        · cases m1
        · rename_i a b'
          rw [if_neg a, if_neg b', if_neg]
          omega
    · exact h.may _ hy

/-- the first goes -/
theorem holds_tail {F : Int → Nat → Option Nat} {Z : Zs} {x : Nat × Tk} (h : Holds1 F (x :: Z)) (hz : ZOk (x :: Z)) : Holds1 (setF F x.2.k x.2.s none) Z := by
  intro k s hks b
  obtain ⟨u1, _⟩ := List.pairwise_cons.1 hz.uniq
  unfold setF
  split
  · rename_i e
    obtain ⟨rfl, rfl⟩ := e
    refine ⟨fun e => (by cases e), ?_⟩
    rintro ⟨a, u, hu, hk, hs⟩
    exact absurd a (u1 (b, u) hu hk.symm hs.symm)
  · rename_i e
    rw [h k s hks b]
    constructor
    · rintro ⟨a, u, hu, hk, hs⟩
      rcases List.mem_cons.1 hu with hu | hu
      · subst hu
        exact absurd ⟨hk.symm, hs.symm⟩ e
      · exact ⟨a, u, hu, hk, hs⟩
    · rintro ⟨a, u, hu, hk⟩
      exact ⟨a, u, List.mem_cons_of_mem _ hu, hk⟩
theorem zok_tail {Z : Zs} {x : Nat × Tk} (h : ZOk (x :: Z)) : ZOk Z :=
  ⟨(List.nodup_cons.1 h.nodup).2, (List.pairwise_cons.1 h.uniq).2, fun y hy => h.may y (List.mem_cons_of_mem _ hy)⟩
theorem zok_filter {Z : Zs} (h : ZOk Z) (f : Nat × Tk → Bool) : ZOk (Z.filter f) :=
  ⟨List.Nodup.sublist (List.Sublist.map _ List.filter_sublist) h.nodup, List.Pairwise.sublist List.filter_sublist h.uniq, fun y hy => h.may y ((List.mem_filter.1 hy).1)⟩

/-- what the table holds when those of the first j that go have gone -/
def Holds2 (F : Int → Nat → Option Nat) (Z : Zs) (out : Nat × Tk → Bool) (j : Nat) : Prop :=
  ∀ k s, Wd k s → ∀ b, F k s = some b ↔ ((Single k ∧ ∃ u, (b, u) ∈ Z ∧ u.k = k ∧ u.s = s) ∧ ∀ x ∈ Z.take j, out x = true → ¬ (x.2.k = k ∧ x.2.s = s))
theorem holds2_start {F : Int → Nat → Option Nat} {Z : Zs} (h : Holds1 F Z) (out : Nat × Tk → Bool) : Holds2 F Z out 0 := by
  intro k s hks b
  rw [h k s hks b]
  simp
theorem holds2_stay {F : Int → Nat → Option Nat} {Z : Zs} {out : Nat × Tk → Bool} {j : Nat} {x : Nat × Tk} (h : Holds2 F Z out j) (hx : Z[j]? = some x) (ho : out x = false) : Holds2 F Z out (j + 1) := by
  intro k s hks b
  rw [h k s hks b, List.take_add_one, hx]
  refine and_congr_right fun _ => ?_
  simp only [Option.toList_some, List.mem_append, List.mem_singleton]
  constructor
  · rintro a y (hy | rfl) hyo
    · exact a y hy hyo
    · rw [ho] at hyo
      cases hyo
  · intro a y hy
    exact a y (.inl hy)
theorem holds2_go {F : Int → Nat → Option Nat} {Z : Zs} {out : Nat × Tk → Bool} {j : Nat} {x : Nat × Tk} (h : Holds2 F Z out j) (hx : Z[j]? = some x) (ho : out x = true) : Holds2 (setF F x.2.k x.2.s none) Z out (j + 1) := by
  intro k s hks b
  unfold setF
  rw [List.take_add_one, hx]
  simp only [Option.toList_some, List.mem_append, List.mem_singleton]
  split
  · rename_i e
    refine ⟨fun e => (by cases e), fun ⟨_, a⟩ => absurd ⟨e.1.symm, e.2.symm⟩ (a x (.inr rfl) ho)⟩
  · rename_i e
    rw [h k s hks b]
    refine and_congr_right fun _ => ?_
    constructor
    · rintro a y (hy | rfl) hyo
      · exact a y hy hyo
      · exact fun e' => e ⟨e'.1.symm, e'.2.symm⟩
    · intro a y hy
      exact a y (.inl hy)
theorem holds2_end {F : Int → Nat → Option Nat} {Z : Zs} {out : Nat × Tk → Bool} (h : Holds2 F Z out Z.length) (hz : ZOk Z) : Holds1 F (Z.filter (fun x => !out x)) := by
  intro k s hks b
  rw [h k s hks b, List.take_length]
  constructor
  · rintro ⟨⟨a, u, hu, hk, hs⟩, c⟩
    refine ⟨a, u, List.mem_filter.2 ⟨hu, ?_⟩, hk, hs⟩
    cases ho : out (b, u) with
    | false => rfl
    | true => exact absurd ⟨hk, hs⟩ (c _ hu ho)
  · rintro ⟨a, u, hu, hk, hs⟩
    obtain ⟨hu, hn⟩ := List.mem_filter.1 hu
    refine ⟨⟨a, u, hu, hk, hs⟩, fun x hx ho e => ?_⟩
    obtain rfl := uniq_eq hz.uniq hx hu (e.1.trans hk.symm) (e.2.trans hs.symm) (e.1 ▸ a)
    rw [ho] at hn
    cases hn

/-- the document's list behind a Put; the error's number -/
def putL (l : List Tk) (t : Tk) : List Tk × Nat :=
  if mayT t ≠ 0 then (l, mayT t)
  else if ¬ Single t.k then (l ++ [t], 0)
  else match l.find? (isT t.k t.s) with
    | none => (l ++ [t], 0)
    | some u => if t.k ≠ 3 then (l, 8) else if 4294967295 < u.v + t.v then (l, 4) else (l.map fun x => if isT t.k t.s x then { x with v := u.v + t.v } else x, 0)
end Go.Proofs.YtialmmobkmdfpaaDoor
