/-
  package table: things by number, rising, as lists (of whatever program)
-/
import Derived.Test.YtnmpnajmhfonhaaDoorProg
namespace Go.Proofs.YtnmpnajmhfonhaaDoor
section
variable {β : Type}
abbrev Tl (β : Type) := List (Nat × β)
def ks (L : Tl β) : List Nat := L.map (·.1)
structure Up (L : Tl β) : Prop where
  p : (ks L).Pairwise (· < ·)
  b : ∀ x ∈ L, x.1 ≤ 4294967295
def tlook : Tl β → Nat → Option β
  | [], _ => none
  | x :: L, k => if x.1 = k then some x.2 else tlook L k
def tput : Tl β → Nat → β → Tl β
  | [], k, v => [(k, v)]
  | x :: L, k, v => if x.1 < k then x :: tput L k v else (k, v) :: x :: L
def tdel (L : Tl β) (k : Nat) : Tl β := L.filter (fun x => x.1 != k)

theorem Up.nil : Up ([] : Tl β) := ⟨List.Pairwise.nil, fun _ h => by cases h⟩
theorem tlook_none_iff {L : Tl β} {k : Nat} : tlook L k = none ↔ k ∉ ks L := by
  induction L with
  | nil => simp [tlook, ks]
  | cons x L ih =>
    unfold tlook
    by_cases h : x.1 = k
    · simp [h, ks]
    · simp only [h, if_false, ih]
      simp only [ks, List.map_cons, List.mem_cons, not_or]
      exact ⟨fun e => ⟨fun e' => h e'.symm, e⟩, fun e => e.2⟩
theorem tlook_some {L : Tl β} {k : Nat} {v : β} (h : tlook L k = some v) : (k, v) ∈ L := by
  induction L with
  | nil => cases h
  | cons x L ih =>
    unfold tlook at h
    split at h
    · rename_i e
      injection h with h
      subst e h
      exact .head _
    · exact .tail _ (ih h)
theorem tlook_mem {L : Tl β} (hu : Up L) {k : Nat} {v : β} (h : (k, v) ∈ L) : tlook L k = some v := by
  induction L with
  | nil => cases h
  | cons x L ih =>
    have hp := hu.p
    simp only [ks, List.map_cons, List.pairwise_cons] at hp
    unfold tlook
    cases h with
    | head => simp
    | tail _ h =>
      have : x.1 < k := hp.1 k (List.mem_map.2 ⟨_, h, rfl⟩)
      rw [if_neg (by omega)]
      exact ih ⟨hp.2, fun y hy => hu.b y (.tail _ hy)⟩ h
theorem tlook_append (A B : Tl β) (k : Nat) : tlook (A ++ B) k = (tlook A k).or (tlook B k) := by
  induction A with
  | nil => rfl
  | cons x A ih =>
    simp only [List.cons_append, tlook]
    split
    · rfl
    · exact ih
theorem tlook_tput {L : Tl β} {k : Nat} (v : β) (h : tlook L k = none) (k' : Nat) : tlook (tput L k v) k' = if k' = k then some v else tlook L k' := by
  induction L with
  | nil =>
    simp only [tput, tlook]
    by_cases e : k = k'
    · simp [e]
    · have e2 : ¬ k' = k := fun e' => e e'.symm
      simp [e, e2]
  | cons x L ih =>
    unfold tlook at h
    split at h
    · cases h
    rename_i hx
    unfold tput
    split
    · simp only [tlook, ih h]
      by_cases e : x.1 = k'
      · simp only [e, if_true]
        rw [if_neg (fun e' => hx (e.trans e'))]
      · simp only [e, if_false]
    · simp only [tlook]
      by_cases e : k = k'
      · simp [e]
      · have e2 : ¬ k' = k := fun e' => e e'.symm
        simp only [e, e2, if_false]
theorem mem_tput {L : Tl β} {k : Nat} {v : β} {x : Nat × β} (h : x ∈ tput L k v) : x = (k, v) ∨ x ∈ L := by
  induction L with
  | nil => simp [tput] at h; exact .inl h
  | cons y L ih =>
    unfold tput at h
    split at h
    · cases h with
      | head => exact .inr (.head _)
      | tail _ h =>
        rcases ih h with h | h
        · exact .inl h
        · exact .inr (.tail _ h)
    · cases h with
      | head => exact .inl rfl
      | tail _ h => exact .inr h
theorem len_tput (L : Tl β) (k : Nat) (v : β) : (tput L k v).length = L.length + 1 := by
  induction L with
  | nil => rfl
  | cons x L ih =>
    unfold tput
    split
    · simp [ih]
    · simp
theorem up_tput {L : Tl β} (hu : Up L) {k : Nat} (v : β) (h : tlook L k = none) (hk : k ≤ 4294967295) : Up (tput L k v) := by
  refine ⟨?_, fun x hx => ?_⟩
  · induction L with
    | nil => simp [tput, ks]
    | cons x L ih =>
      have hp := hu.p
      simp only [ks, List.map_cons, List.pairwise_cons] at hp
      unfold tlook at h
      split at h
      · cases h
      rename_i hx
      unfold tput
      split
      · rename_i hlt
        simp only [ks, List.map_cons, List.pairwise_cons]
        refine ⟨fun y hy => ?_, ih ⟨hp.2, fun y hy => hu.b y (.tail _ hy)⟩ h⟩
        obtain ⟨z, hz, rfl⟩ := List.mem_map.1 hy
        rcases mem_tput hz with rfl | hz
        · exact hlt
        · exact hp.1 _ (List.mem_map.2 ⟨z, hz, rfl⟩)
      · rename_i hlt
        simp only [ks, List.map_cons, List.pairwise_cons]
        refine ⟨fun y hy => ?_, hp.1, hp.2⟩
        rcases List.mem_cons.1 hy with rfl | hy
        · omega
        · have := hp.1 y hy
          omega
  · rcases mem_tput hx with rfl | hx
    · exact hk
    · exact hu.b x hx
theorem tlook_tdel (L : Tl β) (k k' : Nat) : tlook (tdel L k) k' = if k' = k then none else tlook L k' := by
  induction L with
  | nil => simp [tdel, tlook]
  | cons x L ih =>
    unfold tdel at ih ⊢
    by_cases e : x.1 = k
    · rw [List.filter_cons_of_neg (by simp [e]), ih]
      by_cases e' : k' = k
      · simp [e']
      · rw [if_neg e', if_neg e', tlook, if_neg (fun h => e' (h.symm.trans e))]
    · rw [List.filter_cons_of_pos (by simp [e]), tlook, ih]
      by_cases e' : k' = k
      · subst e'
        simp [e]
      · rw [if_neg e', if_neg e', tlook]
theorem up_tdel {L : Tl β} (hu : Up L) (k : Nat) : Up (tdel L k) :=
  ⟨hu.p.sublist (List.Sublist.map _ List.filter_sublist), fun x hx => hu.b x (List.mem_filter.1 hx).1⟩
theorem tdel_absent {L : Tl β} {k : Nat} (h : tlook L k = none) : tdel L k = L := by
  induction L with
  | nil => rfl
  | cons x L ih =>
    unfold tlook at h
    split at h
    · cases h
    rename_i e
    unfold tdel at ih ⊢
    rw [List.filter_cons_of_pos (by simp [e]), ih h]
theorem len_tdel {L : Tl β} (hu : Up L) {k : Nat} {v : β} (h : tlook L k = some v) : (tdel L k).length + 1 = L.length := by
  induction L with
  | nil => cases h
  | cons x L ih =>
    have hp := hu.p
    simp only [ks, List.map_cons, List.pairwise_cons] at hp
    unfold tlook at h
    unfold tdel at ih ⊢
    split at h
    · rename_i e
      have := tdel_absent (L := L) (k := k) (tlook_none_iff.2 (fun hm => by have := hp.1 k hm; omega))
      unfold tdel at this
      rw [List.filter_cons_of_neg (by simp [e]), this]
      rfl
    · rename_i e
      rw [List.filter_cons_of_pos (by simp [e]), List.length_cons, ih ⟨hp.2, fun y hy => hu.b y (.tail _ hy)⟩ h]
      rfl
theorem up_len {L : Tl β} (hu : Up L) : L.length ≤ 4294967296 := by
  have key : ∀ (l : List Nat), l.Pairwise (· < ·) → ∀ m, (∀ x ∈ l, m ≤ x ∧ x ≤ 4294967295) → m ≤ 4294967296 → l.length + m ≤ 4294967296 := by
    intro l
    induction l with
    | nil => intro _ m _ hm; simpa using hm
    | cons x l ih =>
      intro hp m hm _
      simp only [List.pairwise_cons] at hp
      have hx := hm x (.head _)
      have := ih hp.2 (m + 1) (fun y hy => ⟨by have := hp.1 y hy; omega, (hm y (.tail _ hy)).2⟩) (by omega)
      simp only [List.length_cons]
      omega
  have := key (ks L) hu.p 0 (fun x hx => by obtain ⟨y, hy, rfl⟩ := List.mem_map.1 hx; exact ⟨Nat.zero_le _, hu.b y hy⟩) (by omega)
  simpa [ks] using this
theorem len_ks (L : Tl β) : (ks L).length = L.length := by simp [ks]
/-- what was collected in whatever order, once sorted, is the numbers -/
theorem sort_ks {L : Tl β} (hu : Up L) {ss : List Nat} (hp : ss.Perm (ks L)) : ss.mergeSort (fun x y => decide (x ≤ y)) = ks L := by
  have h1 : (ss.mergeSort (fun x y => decide (x ≤ y))).Perm (ks L) := (List.mergeSort_perm ss _).trans hp
  have h2 := List.pairwise_mergeSort (le := fun x y : Nat => decide (x ≤ y)) (fun a b c h1 h2 => by simp at *; omega) (fun a b => by simp; omega) ss
  refine List.Perm.eq_of_pairwise (le := fun x y => x ≤ y) (fun a b _ _ h1 h2 => by omega) ?_ ?_ h1
  · exact h2.imp (fun h => by simpa using h)
  · exact hu.p.imp (fun h => by omega)
theorem tl_get {L : Tl β} (hu : Up L) {i : Nat} {x : Nat × β} (h : L[i]? = some x) : tlook L x.1 = some x.2 := tlook_mem hu (List.mem_of_getElem? h)
end
end Go.Proofs.YtnmpnajmhfonhaaDoor
