/-
  package handles in numbers: pairs of a handle and a place (of whatever program)
-/
import Derived.Test.YtjloedcikcamkaaDoorProg
namespace Go.Proofs.YtjloedcikcamkaaDoor

structure Pl where
  c : Int
  l : Int
  d : Nat
deriving DecidableEq
structure Pl.Wide (p : Pl) : Prop where
  c0 : -9223372036854775808 ≤ p.c
  c1 : p.c ≤ 9223372036854775807
  l0 : -9223372036854775808 ≤ p.l
  l1 : p.l ≤ 9223372036854775807
  d1 : p.d ≤ 4294967295
abbrev Hl := List (Int × Pl)
def hk (L : Hl) : List Int := L.map (·.1)
structure HOk (g : Nat) (L : Hl) : Prop where
  up : (hk L).Pairwise (· < ·)
  b : ∀ x ∈ L, 1 ≤ x.1 ∧ x.1 ≤ (g : Int)
  wd : ∀ x ∈ L, x.2.Wide
  pl : (L.map (·.2)).Nodup
  m : g ≤ 2147483648
def hfind : Hl → Int → Option Pl
  | [], _ => none
  | x :: L, z => if x.1 = z then some x.2 else hfind L z
def hof : Hl → Pl → Option Int
  | [], _ => none
  | x :: L, p => if x.2 = p then some x.1 else hof L p
def hdel (L : Hl) (z : Int) : Hl := L.filter (fun x => x.1 != z)
def honL (L : Hl) (c l : Int) : List Int := hk (L.filter (fun x => decide (x.2.c = c) && decide (x.2.l = l)))

theorem HOk.nil : HOk 0 [] := ⟨List.Pairwise.nil, (fun _ h => by cases h), (fun _ h => by cases h), List.nodup_nil, by decide⟩
theorem hfind_mem {L : Hl} {z : Int} {p : Pl} (h : hfind L z = some p) : (z, p) ∈ L := by
  induction L with
  | nil => cases h
  | cons x L ih =>
    unfold hfind at h
    split at h
    · rename_i e
      injection h with h
      subst e h
      exact .head _
    · exact .tail _ (ih h)
theorem hof_mem {L : Hl} {z : Int} {p : Pl} (h : hof L p = some z) : (z, p) ∈ L := by
  induction L with
  | nil => cases h
  | cons x L ih =>
    unfold hof at h
    split at h
    · rename_i e
      injection h with h
      subst e h
      exact .head _
    · exact .tail _ (ih h)
theorem hfind_none {L : Hl} {z : Int} : hfind L z = none ↔ z ∉ hk L := by
  induction L with
  | nil => simp [hfind, hk]
  | cons x L ih =>
    unfold hfind
    by_cases h : x.1 = z
    · simp [h, hk]
    · simp only [h, if_false, ih]
      simp only [hk, List.map_cons, List.mem_cons, not_or]
      exact ⟨fun e => ⟨fun e' => h e'.symm, e⟩, fun e => e.2⟩
theorem hof_none {L : Hl} {p : Pl} : hof L p = none ↔ p ∉ L.map (·.2) := by
  induction L with
  | nil => simp [hof]
  | cons x L ih =>
    unfold hof
    by_cases h : x.2 = p
    · simp [h]
    · simp only [h, if_false, ih]
      simp only [List.map_cons, List.mem_cons, not_or]
      exact ⟨fun e => ⟨fun e' => h e'.symm, e⟩, fun e => e.2⟩
theorem mem_hfind {L : Hl} (hu : (hk L).Pairwise (· < ·)) {z : Int} {p : Pl} (h : (z, p) ∈ L) : hfind L z = some p := by
  induction L with
  | nil => cases h
  | cons x L ih =>
    simp only [hk, List.map_cons, List.pairwise_cons] at hu
    unfold hfind
    cases h with
    | head => simp
    | tail _ h =>
      have : x.1 < z := hu.1 z (List.mem_map.2 ⟨_, h, rfl⟩)
      rw [if_neg (by omega)]
      exact ih hu.2 h
theorem mem_hof {L : Hl} (hu : (L.map (·.2)).Nodup) {z : Int} {p : Pl} (h : (z, p) ∈ L) : hof L p = some z := by
  induction L with
  | nil => cases h
  | cons x L ih =>
    simp only [List.map_cons, List.nodup_cons] at hu
    unfold hof
    cases h with
    | head => simp
    | tail _ h =>
      have : p ∈ L.map (·.2) := List.mem_map.2 ⟨_, h, rfl⟩
      rw [if_neg (fun e : x.2 = p => hu.1 (by rw [e]; exact this))]
      exact ih hu.2 h
theorem HOk.find_of {g : Nat} {L : Hl} (h : HOk g L) {z : Int} {p : Pl} : hfind L z = some p ↔ hof L p = some z := ⟨fun e => mem_hof h.pl (hfind_mem e), fun e => mem_hfind h.up (hof_mem e)⟩
theorem hfind_append (A B : Hl) (z : Int) : hfind (A ++ B) z = (hfind A z).or (hfind B z) := by
  induction A with
  | nil => rfl
  | cons x A ih =>
    simp only [List.cons_append, hfind]
    split
    · rfl
    · exact ih
theorem hof_append (A B : Hl) (p : Pl) : hof (A ++ B) p = (hof A p).or (hof B p) := by
  induction A with
  | nil => rfl
  | cons x A ih =>
    simp only [List.cons_append, hof]
    split
    · rfl
    · exact ih
theorem HOk.len {g : Nat} {L : Hl} (h : HOk g L) : L.length ≤ g := by
  have key : ∀ (l : List Int), l.Pairwise (· < ·) → ∀ m : Int, (∀ x ∈ l, m ≤ x ∧ x ≤ (g : Int)) → m ≤ g + 1 → (l.length : Int) + m ≤ g + 1 := by
    intro l
    induction l with
    | nil => intro _ m _ hm; simpa using hm
    | cons x l ih =>
      intro hp m hm _
      simp only [List.pairwise_cons] at hp
      have hx := hm x (.head _)
      have := ih hp.2 (m + 1) (fun y hy => ⟨by have := hp.1 y hy; omega, (hm y (.tail _ hy)).2⟩) (by omega)
      simp only [List.length_cons]
      omega
  have := key (hk L) h.up 1 (fun x hx => by obtain ⟨y, hy, rfl⟩ := List.mem_map.1 hx; exact h.b y hy) (by omega)
  simp only [hk, List.length_map] at this
  omega
theorem HOk.last {g : Nat} {L : Hl} (h : HOk g L) {z : Int} (hz : (g : Int) < z) : hfind L z = none := hfind_none.2 (fun hm => by obtain ⟨y, hy, rfl⟩ := List.mem_map.1 hm; have := (h.b y hy).2; omega)
theorem HOk.low {g : Nat} {L : Hl} (h : HOk g L) {z : Int} (hz : z < 1) : hfind L z = none := hfind_none.2 (fun hm => by obtain ⟨y, hy, rfl⟩ := List.mem_map.1 hm; have := (h.b y hy).1; omega)
theorem HOk.find_bind {g : Nat} {L : Hl} (h : HOk g L) (p : Pl) (z : Int) : hfind (L ++ [((g : Int) + 1, p)]) z = if z = (g : Int) + 1 then some p else hfind L z := by
  rw [hfind_append]
  by_cases e : z = (g : Int) + 1
  · subst e
    rw [h.last (by omega), if_pos rfl]
    simp [hfind]
  · rw [if_neg e]
    have : hfind [((g : Int) + 1, p)] z = none := by simp only [hfind]; rw [if_neg (fun e' => e e'.symm)]
    rw [this]
    cases hfind L z <;> rfl
theorem HOk.of_bind {L : Hl} {p : Pl} (hp : hof L p = none) (z : Int) (q : Pl) : hof (L ++ [(z, p)]) q = if q = p then some z else hof L q := by
  rw [hof_append]
  by_cases e : q = p
  · subst e
    rw [hp, if_pos rfl]
    simp [hof]
  · rw [if_neg e]
    have : hof [(z, p)] q = none := by simp only [hof]; rw [if_neg (fun e' => e e'.symm)]
    rw [this]
    cases hof L q <;> rfl
theorem HOk.bind {g : Nat} {L : Hl} (h : HOk g L) {p : Pl} (hw : p.Wide) (hp : hof L p = none) (hg : g < 2147483648) : HOk (g + 1) (L ++ [((g : Int) + 1, p)]) := by
  refine ⟨?_, ?_, ?_, ?_, hg⟩
  · simp only [hk, List.map_append, List.map_cons, List.map_nil]
    refine List.pairwise_append.2 ⟨h.up, List.pairwise_singleton _ _, fun x hx y hy => ?_⟩
    obtain ⟨z, hz, rfl⟩ := List.mem_map.1 hx
    simp only [List.mem_singleton] at hy
    have := (h.b z hz).2
    omega
  · intro x hx
    rcases List.mem_append.1 hx with hx | hx
    · have := h.b x hx
      omega
    · simp only [List.mem_singleton] at hx
      subst hx
      simp only
      omega
  · intro x hx
    rcases List.mem_append.1 hx with hx | hx
    · exact h.wd x hx
    · simp only [List.mem_singleton] at hx
      subst hx
      exact hw
  · simp only [List.map_append, List.map_cons, List.map_nil]
    refine List.nodup_append.2 ⟨h.pl, by simp, fun a ha b hb => ?_⟩
    simp only [List.mem_singleton] at hb
    subst hb
    exact fun e => hof_none.1 hp (e ▸ ha)
theorem HOk.del {g : Nat} {L : Hl} (h : HOk g L) (z : Int) : HOk g (hdel L z) :=
  ⟨h.up.sublist (List.Sublist.map _ List.filter_sublist), fun x hx => h.b x (List.mem_filter.1 hx).1, fun x hx => h.wd x (List.mem_filter.1 hx).1, h.pl.sublist (List.Sublist.map _ List.filter_sublist), h.m⟩
theorem hfind_del (L : Hl) (z z' : Int) : hfind (hdel L z) z' = if z' = z then none else hfind L z' := by
  induction L with
  | nil => simp [hdel, hfind]
  | cons x L ih =>
    unfold hdel at ih ⊢
    by_cases e : x.1 = z
    · rw [List.filter_cons_of_neg (by simp [e]), ih]
      by_cases e' : z' = z
      · simp [e']
      · rw [if_neg e', if_neg e', hfind, if_neg (fun h => e' (h.symm.trans e))]
    · rw [List.filter_cons_of_pos (by simp [e]), hfind, ih]
      by_cases e' : z' = z
      · subst e'
        simp [e]
      · rw [if_neg e', if_neg e', hfind]
theorem hdel_absent {L : Hl} {z : Int} (h : hfind L z = none) : hdel L z = L := by
  induction L with
  | nil => rfl
  | cons x L ih =>
    unfold hfind at h
    split at h
    · cases h
    rename_i e
    unfold hdel at ih ⊢
    rw [List.filter_cons_of_pos (by simp [e]), ih h]
theorem HOk.len_del {g : Nat} {L : Hl} (h : HOk g L) {z : Int} {p : Pl} (hf : hfind L z = some p) : (hdel L z).length + 1 = L.length := by
  have hu := h.up
  clear h
  induction L with
  | nil => cases hf
  | cons x L ih =>
    simp only [hk, List.map_cons, List.pairwise_cons] at hu
    unfold hfind at hf
    unfold hdel at ih ⊢
    split at hf
    · rename_i e
      have := hdel_absent (L := L) (z := z) (hfind_none.2 (fun hm => by have := hu.1 z hm; omega))
      unfold hdel at this
      rw [List.filter_cons_of_neg (by simp [e]), this]
      rfl
    · rename_i e
      rw [List.filter_cons_of_pos (by simp [e]), List.length_cons, ih hf hu.2]
      rfl
theorem HOk.of_del {g : Nat} {L : Hl} (h : HOk g L) {z : Int} {p : Pl} (hf : hfind L z = some p) (q : Pl) : hof (hdel L z) q = if q = p then none else hof L q := by
  by_cases e : q = p
  · subst e
    rw [if_pos rfl]
    refine hof_none.2 (fun hm => ?_)
    obtain ⟨x, hx, hxq⟩ := List.mem_map.1 hm
    obtain ⟨hx1, hx2⟩ := List.mem_filter.1 hx
    have h1 := mem_hof h.pl (z := x.1) (p := x.2) hx1
    rw [hxq, h.find_of.1 hf] at h1
    injection h1 with h1
    simp [h1] at hx2
  · rw [if_neg e]
    cases ho : hof L q with
    | none =>
      refine hof_none.2 (fun hm => hof_none.1 ho ?_)
      obtain ⟨x, hx, hxq⟩ := List.mem_map.1 hm
      exact List.mem_map.2 ⟨x, (List.mem_filter.1 hx).1, hxq⟩
    | some y =>
      have hm := hof_mem ho
      refine mem_hof (h.del z).pl (List.mem_filter.2 ⟨hm, ?_⟩)
      have : y ≠ z := fun e' => by
        subst e'
        have := h.find_of.2 ho
        rw [hf] at this
        injection this with this
        exact e this.symm
      simpa using this
theorem HOk.del0 {g : Nat} {L : Hl} (h : HOk g L) : hdel L 0 = L := hdel_absent (h.low (by decide))
theorem hon_up {g : Nat} {L : Hl} (h : HOk g L) (c l : Int) : (honL L c l).Pairwise (· < ·) := h.up.sublist (List.Sublist.map _ List.filter_sublist)
theorem hon_mem {g : Nat} {L : Hl} (h : HOk g L) (c l z : Int) : z ∈ honL L c l ↔ ∃ p, hfind L z = some p ∧ p.c = c ∧ p.l = l := by
  unfold honL hk
  constructor
  · intro hm
    obtain ⟨x, hx, rfl⟩ := List.mem_map.1 hm
    obtain ⟨h1, h2⟩ := List.mem_filter.1 hx
    simp at h2
    exact ⟨x.2, mem_hfind h.up h1, h2.1, h2.2⟩
  · rintro ⟨p, hp, h1, h2⟩
    exact List.mem_map.2 ⟨(z, p), List.mem_filter.2 ⟨hfind_mem hp, by simp [h1, h2]⟩, rfl⟩
theorem hon_len (L : Hl) (c l : Int) : (honL L c l).length ≤ L.length := by unfold honL hk; rw [List.length_map]; exact List.length_filter_le _ _
/-- what was collected in whatever order, once sorted -/
theorem sort_hon {g : Nat} {L : Hl} (h : HOk g L) {c l : Int} {ss : List Int} (hp : ss.Perm (honL L c l)) : ss.mergeSort (fun x y => decide (x ≤ y)) = honL L c l := by
  have h1 : (ss.mergeSort (fun x y => decide (x ≤ y))).Perm (honL L c l) := (List.mergeSort_perm ss _).trans hp
  have h2 := List.pairwise_mergeSort (le := fun x y : Int => decide (x ≤ y)) (fun a b c h1 h2 => by simp at *; omega) (fun a b => by simp; omega) ss
  refine List.Perm.eq_of_pairwise (le := fun x y => x ≤ y) (fun a b _ _ h1 h2 => by omega) ?_ ?_ h1
  · exact h2.imp (fun h => by simpa using h)
  · exact (hon_up h c l).imp (fun h => by omega)
end Go.Proofs.YtjloedcikcamkaaDoor
