/-
  package trace in numbers: keys with what became of them, rising (of whatever program)
-/
import Derived.Test.YtambdgcogldbgaaDoorProg
namespace Go.Proofs.YtambdgcogldbgaaDoor

structure Rc where
  wr : List Int
  rd : Nat
  cl : Bool
  en : Bool
abbrev Hs := List (Int × Rc)
abbrev rc0 : Rc := ⟨[], 0, false, false⟩
def Zw (z : Int) : Prop := -9223372036854775808 ≤ z ∧ z ≤ 9223372036854775807
def tk (L : Hs) : List Int := L.map (·.1)
def tget : Hs → Int → Option Rc
  | [], _ => none
  | x :: L, z => if x.1 = z then some x.2 else tget L z
def tset : Hs → Int → Rc → Hs
  | [], k, r => [(k, r)]
  | x :: L, k, r => if x.1 < k then x :: tset L k r else if x.1 = k then (k, r) :: L else (k, r) :: x :: L
structure Rc.Ok (T : Nat) (r : Rc) : Prop where
  rd : r.rd ≤ r.wr.length
  len : r.wr.length ≤ T
  byte : ∀ n ∈ r.wr, 0 ≤ n ∧ n ≤ 255
structure TOk (T : Nat) (L : Hs) : Prop where
  up : (tk L).Pairwise (· < ·)
  kb : ∀ x ∈ L, Zw x.1
  rb : ∀ x ∈ L, x.2.Ok T
def Rc.rest (r : Rc) : List Int := r.wr.drop r.rd
def got (L : Hs) (k : Int) : Rc := (tget L k).getD rc0

theorem Rc.Ok.zero (T : Nat) : rc0.Ok T := ⟨Nat.le_refl _, Nat.zero_le _, fun _ h => by cases h⟩
theorem Rc.Ok.mono {T T' : Nat} {r : Rc} (h : r.Ok T) (hT : T ≤ T') : r.Ok T' := ⟨h.rd, Nat.le_trans h.len hT, h.byte⟩
theorem TOk.nil (T : Nat) : TOk T [] := ⟨List.Pairwise.nil, (fun _ h => by cases h), (fun _ h => by cases h)⟩
theorem TOk.mono {T T' : Nat} {L : Hs} (h : TOk T L) (hT : T ≤ T') : TOk T' L := ⟨h.up, h.kb, fun x hx => (h.rb x hx).mono hT⟩
theorem tget_mem {L : Hs} {z : Int} {p : Rc} (h : tget L z = some p) : (z, p) ∈ L := by
  induction L with
  | nil => cases h
  | cons x L ih =>
    unfold tget at h
    split at h
    · rename_i e
      injection h with h
      subst e h
      exact .head _
    · exact .tail _ (ih h)
theorem tget_none {L : Hs} {z : Int} : tget L z = none ↔ z ∉ tk L := by
  induction L with
  | nil => simp [tget, tk]
  | cons x L ih =>
    unfold tget
    by_cases h : x.1 = z
    · simp [h, tk]
    · simp only [h, if_false, ih]
      simp only [tk, List.map_cons, List.mem_cons, not_or]
      exact ⟨fun e => ⟨fun e' => h e'.symm, e⟩, fun e => e.2⟩
theorem tget_key {L : Hs} {z : Int} : (tget L z).isSome = true ↔ z ∈ tk L := by
  have := tget_none (L := L) (z := z)
  cases h : tget L z with
  | none => simp [this.1 h]
  | some r => simp only [Option.isSome_some, true_iff]; exact Classical.byContradiction fun e => by rw [this.2 e] at h; cases h
theorem tget_at {L : Hs} {T : Nat} (ho : TOk T L) {j : Nat} {x : Int × Rc} (h : L[j]? = some x) : tget L x.1 = some x.2 := by
  have hu := ho.up
  clear ho
  induction L generalizing j with
  | nil => simp at h
  | cons y L ih =>
    simp only [tk, List.map_cons, List.pairwise_cons] at hu
    unfold tget
    cases j with
    | zero => simp only [List.getElem?_cons_zero, Option.some.injEq] at h; simp [h]
    | succ j =>
      simp only [List.getElem?_cons_succ] at h
      have : y.1 < x.1 := hu.1 _ (List.mem_map.2 ⟨x, List.mem_of_getElem? h, rfl⟩)
      rw [if_neg (by omega)]
      exact ih h hu.2
theorem tget_tset (L : Hs) (k : Int) (r : Rc) (k' : Int) : tget (tset L k r) k' = if k' = k then some r else tget L k' := by
  induction L with
  | nil =>
    simp only [tset, tget]
    by_cases e : k = k'
    · simp [e]
    · rw [if_neg e, if_neg (fun e' => e e'.symm)]
  | cons x L ih =>
    unfold tset
    split
    · rename_i hx
      simp only [tget, ih]
      by_cases e : x.1 = k'
      · simp only [e, if_true]; rw [if_neg (by omega)]
      · simp only [e, if_false]
    · split
      · rename_i hx
        simp only [tget]
        by_cases e : k = k'
        · simp [e]
        · rw [if_neg e, if_neg (fun e' => e e'.symm), if_neg (by omega)]
      · simp only [tget]
        by_cases e : k = k'
        · simp [e]
        · have e2 : ¬ k' = k := fun e' => e e'.symm
          simp only [e, e2, if_false]
theorem mem_tset {L : Hs} {k : Int} {r : Rc} {x : Int × Rc} (h : x ∈ tset L k r) : x = (k, r) ∨ x ∈ L := by
  induction L with
  | nil => simp [tset] at h; exact .inl h
  | cons y L ih =>
    unfold tset at h
    split at h
    · cases h with
      | head => exact .inr (.head _)
      | tail _ h =>
        rcases ih h with h | h
        · exact .inl h
        · exact .inr (.tail _ h)
    · split at h
      · cases h with
        | head => exact .inl rfl
        | tail _ h => exact .inr (.tail _ h)
      · cases h with
        | head => exact .inl rfl
        | tail _ h => exact .inr h
theorem len_tset {L : Hs} (hu : (tk L).Pairwise (· < ·)) (k : Int) (r : Rc) : (tset L k r).length = if (tget L k).isSome then L.length else L.length + 1 := by
  induction L with
  | nil => rfl
  | cons x L ih =>
    simp only [tk, List.map_cons, List.pairwise_cons] at hu
    unfold tset tget
    split
    · rename_i hx
      have e : ¬ x.1 = k := by omega
      simp only [e, if_false, List.length_cons]
      rw [ih hu.2]
      split <;> rfl
    · split
      · rename_i hx; simp
      · rename_i h1 h2
        have : tget L k = none := tget_none.2 (fun hm => by have := hu.1 k hm; omega)
        rw [this]
        rfl
theorem up_tset {L : Hs} (hu : (tk L).Pairwise (· < ·)) (k : Int) (r : Rc) : (tk (tset L k r)).Pairwise (· < ·) := by
  induction L with
  | nil => simp [tset, tk]
  | cons x L ih =>
    simp only [tk, List.map_cons, List.pairwise_cons] at hu
    unfold tset
    split
    · rename_i hx
      simp only [tk, List.map_cons, List.pairwise_cons]
      refine ⟨fun a ha => ?_, ih hu.2⟩
      obtain ⟨y, hy, rfl⟩ := List.mem_map.1 ha
      rcases mem_tset hy with rfl | hy
      · exact hx
      · exact hu.1 _ (List.mem_map.2 ⟨y, hy, rfl⟩)
    · split
      · rename_i h1 h2
        simp only [tk, List.map_cons, List.pairwise_cons]
        refine ⟨fun a ha => ?_, hu.2⟩
        have := hu.1 a ha
        omega
      · simp only [tk, List.map_cons, List.pairwise_cons, List.mem_cons]
        refine ⟨fun a ha => ?_, hu⟩
        rcases ha with rfl | ha
        · omega
        · have := hu.1 a ha
          omega
theorem TOk.set {T : Nat} {L : Hs} (h : TOk T L) {k : Int} (hk : Zw k) {r : Rc} (hr : r.Ok T) : TOk T (tset L k r) := by
  refine ⟨up_tset h.up k r, fun x hx => ?_, fun x hx => ?_⟩
  · rcases mem_tset hx with rfl | hx
    · exact hk
    · exact h.kb x hx
  · rcases mem_tset hx with rfl | hx
    · exact hr
    · exact h.rb x hx
theorem tset_low {A : Hs} {k : Int} (h : ∀ x ∈ A, x.1 < k) (B : Hs) (r : Rc) : tset (A ++ B) k r = A ++ tset B k r := by
  induction A with
  | nil => rfl
  | cons x A ih =>
    rw [List.cons_append, tset, if_pos (h x (.head _)), ih (fun y hy => h y (.tail _ hy)), List.cons_append]
theorem tset_high {A : Hs} {k : Int} (h : ∃ x ∈ A, k ≤ x.1) (B : Hs) (r : Rc) : tset (A ++ B) k r = tset A k r ++ B := by
  induction A with
  | nil => obtain ⟨x, hx, _⟩ := h; cases hx
  | cons x A ih =>
    rw [List.cons_append]
    unfold tset
    split
    · rename_i hx
      obtain ⟨y, hy, hk⟩ := h
      cases hy with
      | head => omega
      | tail _ hy => rw [ih ⟨y, hy, hk⟩]; rfl
    · split
      · rfl
      · rfl
theorem TOk.got {T : Nat} {L : Hs} (h : TOk T L) (k : Int) : (got L k).Ok T := by
  unfold Proofs.YtambdgcogldbgaaDoor.got
  cases e : tget L k with
  | none => exact Rc.Ok.zero T
  | some r => exact h.rb _ (tget_mem e)
theorem TOk.len_get {T : Nat} {L : Hs} (_h : TOk T L) : (tk L).length = L.length := by simp [tk]
theorem sort_tk {T : Nat} {L : Hs} (h : TOk T L) {ss : List Int} (hp : ss.Perm (tk L)) : ss.mergeSort (fun x y => decide (x ≤ y)) = tk L := by
  have h1 : (ss.mergeSort (fun x y => decide (x ≤ y))).Perm (tk L) := (List.mergeSort_perm ss _).trans hp
  have h2 := List.pairwise_mergeSort (le := fun x y : Int => decide (x ≤ y)) (fun a b c h1 h2 => by simp at *; omega) (fun a b => by simp; omega) ss
  refine List.Perm.eq_of_pairwise (le := fun x y => x ≤ y) (fun a b _ _ h1 h2 => by omega) ?_ ?_ h1
  · exact h2.imp (fun h => by simpa using h)
  · exact h.up.imp (fun h => by omega)
/-- what Wrote leaves, and what it answers -/
def wroteL (L : Hs) (k : Int) (ms : List Int) : Hs := if (got L k).cl then L else tset L k { got L k with wr := (got L k).wr ++ ms }
def wroteC (L : Hs) (k : Int) : Int := if (got L k).cl then 24 else 0
def closedL (L : Hs) (k : Int) : Hs := if (got L k).cl then L else tset L k { got L k with cl := true }
def gaveB (L : Hs) (k : Int) (ms : List Int) : Bool := decide (ms.length ≤ (got L k).rest.length) && decide ((got L k).rest.take ms.length = ms)
def gaveL (L : Hs) (k : Int) (ms : List Int) : Hs := if gaveB L k ms then tset L k { got L k with rd := (got L k).rd + ms.length } else L
def gaveC (L : Hs) (k : Int) (ms : List Int) : Int := if gaveB L k ms then 0 else 39
def endedB (L : Hs) (k : Int) : Bool := (got L k).cl && decide ((got L k).rd = (got L k).wr.length)
def endedL (L : Hs) (k : Int) : Hs := if endedB L k then tset L k { got L k with en := true } else L
def endedC (L : Hs) (k : Int) : Int := if endedB L k then 0 else 39
theorem Rc.rest_len (r : Rc) : r.rest.length = r.wr.length - r.rd := by simp [Rc.rest]
theorem Rc.Ok.gave {T : Nat} {r : Rc} (h : r.Ok T) {n : Nat} (hn : n ≤ r.rest.length) : ({ r with rd := r.rd + n } : Rc).Ok T := by
  rw [Rc.rest_len] at hn
  have := h.rd
  exact ⟨by simp only; omega, h.len, h.byte⟩
theorem Rc.Ok.wrote {T : Nat} {r : Rc} (h : r.Ok T) {ms : List Int} (hm : ∀ n ∈ ms, 0 ≤ n ∧ n ≤ 255) : ({ r with wr := r.wr ++ ms } : Rc).Ok (T + ms.length) := by
  have := h.rd
  have := h.len
  refine ⟨by simp only [List.length_append]; omega, by simp only [List.length_append]; omega, fun n hn => ?_⟩
  rcases List.mem_append.1 hn with hn | hn
  · exact h.byte n hn
  · exact hm n hn
theorem TOk.wrote {T : Nat} {L : Hs} (h : TOk T L) {k : Int} (hk : Zw k) {ms : List Int} (hm : ∀ n ∈ ms, 0 ≤ n ∧ n ≤ 255) : TOk (T + ms.length) (wroteL L k ms) := by
  unfold wroteL
  split
  · exact h.mono (Nat.le_add_right _ _)
  · exact (h.mono (Nat.le_add_right _ _)).set hk ((h.got k).wrote hm)
theorem TOk.closed {T : Nat} {L : Hs} (h : TOk T L) {k : Int} (hk : Zw k) : TOk T (closedL L k) := by
  unfold closedL
  split
  · exact h
  · have g := h.got k
    exact h.set hk ⟨g.rd, g.len, g.byte⟩
theorem TOk.gave {T : Nat} {L : Hs} (h : TOk T L) {k : Int} (hk : Zw k) (ms : List Int) : TOk T (gaveL L k ms) := by
  unfold gaveL
  split
  · rename_i hg
    unfold gaveB at hg
    rw [Bool.and_eq_true, decide_eq_true_eq] at hg
    exact h.set hk ((h.got k).gave hg.1)
  · exact h
theorem TOk.ended {T : Nat} {L : Hs} (h : TOk T L) {k : Int} (hk : Zw k) : TOk T (endedL L k) := by
  unfold endedL
  split
  · have g := h.got k
    exact h.set hk ⟨g.rd, g.len, g.byte⟩
  · exact h
end Go.Proofs.YtambdgcogldbgaaDoor
