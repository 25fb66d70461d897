/-
  Bytes as messages (layer 27): what a row of bytes says, whatever the cutting. Of whatever program.
-/
import Derived.Test.YtnocalkloinbbaaDoorLists
namespace Go.Proofs.YtnocalkloinbbaaDoor

/-- a length at the beginning of bytes: none: it isn't whole; some none: it may not be; else the length and how many bytes it has -/
def hdM (most : Nat) : List Int → Option (Option (Nat × Nat))
  | [] => none
  | a :: l1 =>
    if a < 128 then (if most < a.toNat then some none else some (some (a.toNat, 1)))
    else match l1 with
      | [] => none
      | b :: l2 =>
        if b < 128 then (if most < (a % 128 + b * 128).toNat ∨ b = 0 then some none else some (some ((a % 128 + b * 128).toNat, 2)))
        else match l2 with
          | [] => none
          | c :: _ => if c < 128 then (if most < (a % 128 + b % 128 * 128 + c * 16384).toNat ∨ c = 0 then some none else some (some ((a % 128 + b % 128 * 128 + c * 16384).toNat, 3))) else some none
def lenB (n : Nat) : List Int := if n < 128 then [(n : Int)] else if n < 16384 then [((n % 128 + 128 : Nat) : Int), ((n / 128 : Nat) : Int)] else [((n % 128 + 128 : Nat) : Int), ((n / 128 % 128 + 128 : Nat) : Int), ((n / 16384 : Nat) : Int)]
def encM (m : List Int) : List Int := lenB m.length ++ m
structure MOut where
  ms : List (List Int)
  rest : List Int
  dead : Bool
variable {most : Nat} {l a b : List Int}
theorem hdM_pos {n k : Nat} (h : hdM most l = some (some (n, k))) : 1 ≤ k ∧ k ≤ 3 ∧ n ≤ most ∧ k ≤ l.length := by
  unfold hdM at h
  split at h
  · cases h
  · rename_i a l1
    split at h
    · split at h
      · cases h
      · cases h; simp; omega
    · split at h
      · cases h
      · rename_i b l2 _
        split at h
        · split at h
          · cases h
          · cases h; simp; omega
        · split at h
          · cases h
          · rename_i c l3 _
            split at h
            · split at h
              · cases h
              · cases h; simp; omega
            · cases h
theorem hdM_app {x : Option (Nat × Nat)} (h : hdM most l = some x) (b : List Int) : hdM most (l ++ b) = some x := by
  unfold hdM at h ⊢
  split at h
  · cases h
  · rename_i a l1
    rw [List.cons_append]
    dsimp only
    split at h
    · rename_i h1; rw [if_pos h1]; exact h
    · rename_i h1
      rw [if_neg h1]
      split at h
      · cases h
      · rename_i c l2 _
        rw [List.cons_append]
        dsimp only
        split at h
        · rename_i h2; rw [if_pos h2]; exact h
        · rename_i h2
          rw [if_neg h2]
          split at h
          · cases h
          · rename_i d l3 _
            rw [List.cons_append]
            exact h
def parseM (most : Nat) (l : List Int) : MOut :=
  match _h : hdM most l with
  | none => ⟨[], l, false⟩
  | some none => ⟨[], [], true⟩
  | some (some (n, k)) =>
    if l.length < k + n then ⟨[], l, false⟩
    else
      let r := parseM most (l.drop (k + n))
      ⟨(l.drop k).take n :: r.ms, r.rest, r.dead⟩
termination_by l.length
decreasing_by have := hdM_pos _h; simp; omega
theorem parseM_none (h : hdM most l = none) : parseM most l = ⟨[], l, false⟩ := by
  rw [parseM]; split
  · rfl
  · rename_i h'; rw [h] at h'; cases h'
  · rename_i h'; rw [h] at h'; cases h'
theorem parseM_bad (h : hdM most l = some none) : parseM most l = ⟨[], [], true⟩ := by
  rw [parseM]; split
  · rename_i h'; rw [h] at h'; cases h'
  · rfl
  · rename_i h'; rw [h] at h'; cases h'
theorem parseM_part {n k : Nat} (h : hdM most l = some (some (n, k))) (hl : l.length < k + n) : parseM most l = ⟨[], l, false⟩ := by
  rw [parseM]; split
  · rfl
  · rename_i h'; rw [h] at h'; cases h'
  · rename_i h'; rw [h] at h'; cases h'; rw [if_pos hl]
theorem parseM_more {n k : Nat} (h : hdM most l = some (some (n, k))) (hl : k + n ≤ l.length) : parseM most l = ⟨(l.drop k).take n :: (parseM most (l.drop (k + n))).ms, (parseM most (l.drop (k + n))).rest, (parseM most (l.drop (k + n))).dead⟩ := by
  rw [parseM]; split
  · rename_i h'; rw [h] at h'; cases h'
  · rename_i h'; rw [h] at h'; cases h'
  · rename_i h'; rw [h] at h'; cases h'; rw [if_neg (by omega)]
/-- what a reader that lives may hold -/
def LiveM (most : Nat) (l : List Int) : Prop := hdM most l = none ∨ ∃ n k, hdM most l = some (some (n, k)) ∧ l.length < k + n
theorem LiveM.parse (h : LiveM most l) : parseM most l = ⟨[], l, false⟩ := by
  rcases h with h | ⟨n, k, h, hl⟩
  · exact parseM_none h
  · exact parseM_part h hl
theorem hdM_none_len (h : hdM most l = none) : l.length ≤ 2 := by
  unfold hdM at h
  split at h
  · simp
  · split at h
    · split at h <;> cases h
    · split at h
      · simp
      · split at h
        · split at h <;> cases h
        · split at h
          · simp
          · split at h
            · split at h <;> cases h
            · cases h
theorem LiveM.len (h : LiveM most l) : l.length ≤ most + 2 := by
  rcases h with h | ⟨n, k, h, hl⟩
  · have := hdM_none_len h; omega
  · have := hdM_pos h; omega
theorem parseM_live (l : List Int) (h : (parseM most l).dead = false) : LiveM most (parseM most l).rest := by
  induction hn : l.length using Nat.strongRecOn generalizing l with
  | _ n ih =>
    cases hd : hdM most l with
    | none => rw [parseM_none hd]; exact .inl hd
    | some x =>
      cases x with
      | none => rw [parseM_bad hd] at h; cases h
      | some x =>
        obtain ⟨m, k⟩ := x
        by_cases hl : l.length < k + m
        · rw [parseM_part hd hl]; exact .inr ⟨m, k, hd, hl⟩
        · rw [parseM_more hd (by omega)] at h ⊢
          have := hdM_pos hd
          exact ih (l.drop (k + m)).length (by simp; omega) (l.drop (k + m)) h rfl
theorem parseM_rest_len (l : List Int) : (parseM most l).rest.length ≤ most + 2 := by
  cases h : (parseM most l).dead with
  | false => exact (parseM_live l h).len
  | true =>
    have : ∀ (j : Nat) (l : List Int), l.length ≤ j → (parseM most l).dead = true → (parseM most l).rest = [] := by
      intro j
      induction j with
      | zero =>
        intro l hj hd
        rw [List.eq_nil_of_length_eq_zero (by omega : l.length = 0)] at hd ⊢
        rw [parseM_none rfl] at hd
        cases hd
      | succ j ih =>
        intro l hj hd
        cases hh : hdM most l with
        | none => rw [parseM_none hh] at hd; cases hd
        | some x =>
          cases x with
          | none => rw [parseM_bad hh]
          | some x =>
            obtain ⟨m, k⟩ := x
            have hp := hdM_pos hh
            by_cases hl : l.length < k + m
            · rw [parseM_part hh hl] at hd; cases hd
            · rw [parseM_more hh (by omega)] at hd ⊢
              exact ih (l.drop (k + m)) (by simp; omega) hd
    rw [this l.length l (Nat.le_refl _) h]; simp
/-- more bytes behind bytes that a reader lives with -/
theorem parseM_app (a b : List Int) (h : (parseM most a).dead = false) : parseM most (a ++ b) = ⟨(parseM most a).ms ++ (parseM most ((parseM most a).rest ++ b)).ms, (parseM most ((parseM most a).rest ++ b)).rest, (parseM most ((parseM most a).rest ++ b)).dead⟩ := by
  induction hn : a.length using Nat.strongRecOn generalizing a with
  | _ n ih =>
    cases hd : hdM most a with
    | none => rw [parseM_none hd]; rfl
    | some x =>
      cases x with
      | none => rw [parseM_bad hd] at h; cases h
      | some x =>
        obtain ⟨m, k⟩ := x
        have hp := hdM_pos hd
        by_cases hl : a.length < k + m
        · rw [parseM_part hd hl]; rfl
        · have hd2 := hdM_app hd b
          rw [parseM_more hd (by omega)] at h ⊢
          rw [parseM_more hd2 (by simp; omega)]
          have e1 : (a ++ b).drop (k + m) = a.drop (k + m) ++ b := List.drop_append_of_le_length (by omega)
          have e2 : ((a ++ b).drop k).take m = (a.drop k).take m := by
            rw [List.drop_append_of_le_length (by omega), List.take_append_of_le_length (by simp; omega)]
          rw [e1, e2, ih (a.drop (k + m)).length (by simp; omega) (a.drop (k + m)) h rfl]
          rfl
/-- more bytes behind bytes that it died of -/
theorem parseM_app_dead (a b : List Int) (h : (parseM most a).dead = true) : parseM most (a ++ b) = parseM most a := by
  induction hn : a.length using Nat.strongRecOn generalizing a with
  | _ n ih =>
    cases hd : hdM most a with
    | none => rw [parseM_none hd] at h; cases h
    | some x =>
      have hd2 := hdM_app hd b
      cases x with
      | none => rw [parseM_bad hd, parseM_bad hd2]
      | some x =>
        obtain ⟨m, k⟩ := x
        have hp := hdM_pos hd
        by_cases hl : a.length < k + m
        · rw [parseM_part hd hl] at h; cases h
        · rw [parseM_more hd (by omega)] at h ⊢
          rw [parseM_more hd2 (by simp; omega)]
          have e1 : (a ++ b).drop (k + m) = a.drop (k + m) ++ b := List.drop_append_of_le_length (by omega)
          have e2 : ((a ++ b).drop k).take m = (a.drop k).take m := by
            rw [List.drop_append_of_le_length (by omega), List.take_append_of_le_length (by simp; omega)]
          rw [e1, e2, ih (a.drop (k + m)).length (by simp; omega) (a.drop (k + m)) h rfl]
/-- lengths there and back -/
theorem lenB_len (n : Nat) : 1 ≤ (lenB n).length ∧ (lenB n).length ≤ 3 := by unfold lenB; split <;> (try split) <;> simp
theorem hdM_lenB {n : Nat} (hn : n ≤ most) (hm : n < 2097152) (r : List Int) : hdM most (lenB n ++ r) = some (some (n, (lenB n).length)) := by
  unfold lenB
  split
  · simp only [List.cons_append, List.nil_append, hdM]
    rw [if_pos (by omega), if_neg (by omega)]
    simp
  · split
    · simp only [List.cons_append, List.nil_append, hdM]
      rw [if_neg (by omega), if_pos (by omega), if_neg (by omega)]
      have e : (((n % 128 + 128 : Nat) : Int) % 128 + ((n / 128 : Nat) : Int) * 128).toNat = n := by omega
      rw [e]
      rfl
    · simp only [List.cons_append, List.nil_append, hdM]
      rw [if_neg (by omega), if_neg (by omega), if_pos (by omega), if_neg (by omega)]
      have e : (((n % 128 + 128 : Nat) : Int) % 128 + ((n / 128 % 128 + 128 : Nat) : Int) % 128 * 128 + ((n / 16384 : Nat) : Int) * 16384).toNat = n := by omega
      rw [e]
      rfl
theorem hdM_only {n k : Nat} (hb : AreBytes l) (h : hdM most l = some (some (n, k))) : l.take k = lenB n ∧ k = (lenB n).length := by
  unfold hdM at h
  split at h
  · cases h
  · rename_i x l1
    have hx := hb x (by simp)
    split at h
    · split at h
      · cases h
      · cases h
        unfold lenB
        rw [if_pos (by omega)]
        simp
        omega
    · split at h
      · cases h
      · rename_i y l2
        have hy := hb y (by simp)
        split at h
        · split at h
          · cases h
          · rename_i hc
            cases h
            unfold lenB
            have h1 : ¬ ((x % 128 + y * 128).toNat < 128) := by omega
            rw [if_neg h1, if_pos (by omega)]
            simp
            omega
        · split at h
          · cases h
          · rename_i z l3
            have hz := hb z (by simp)
            split at h
            · split at h
              · cases h
              · rename_i hc
                cases h
                unfold lenB
                have h1 : ¬ ((x % 128 + y % 128 * 128 + z * 16384).toNat < 128) := by omega
                have h2 : ¬ ((x % 128 + y % 128 * 128 + z * 16384).toNat < 16384) := by omega
                rw [if_neg h1, if_neg h2]
                simp
                omega
            · cases h
theorem parseM_enc {m : List Int} (hm : m.length ≤ most) (h21 : m.length < 2097152) (r : List Int) : parseM most (encM m ++ r) = ⟨m :: (parseM most r).ms, (parseM most r).rest, (parseM most r).dead⟩ := by
  have e : encM m ++ r = lenB m.length ++ (m ++ r) := by simp [encM]
  have hd := hdM_lenB (most := most) hm h21 (m ++ r)
  rw [e, parseM_more hd (by simp)]
  have e1 : (lenB m.length ++ (m ++ r)).drop ((lenB m.length).length + m.length) = r := by
    rw [← List.drop_drop, List.drop_left, List.drop_left]
  have e2 : ((lenB m.length ++ (m ++ r)).drop (lenB m.length).length).take m.length = m := by rw [List.drop_left, List.take_left]
  rw [e1, e2]
theorem parseM_flat (ms : List (List Int)) (h : ∀ m ∈ ms, m.length ≤ most ∧ m.length < 2097152) (r : List Int) : parseM most (ms.flatMap encM ++ r) = ⟨ms ++ (parseM most r).ms, (parseM most r).rest, (parseM most r).dead⟩ := by
  induction ms with
  | nil => rfl
  | cons m ms ih =>
    rw [List.flatMap_cons, List.append_assoc, parseM_enc (h m (by simp)).1 (h m (by simp)).2, ih (fun x hx => h x (by simp [hx]))]
    rfl
/-- what bytes are, by what they say -/
theorem parseM_spec (l : List Int) (hb : AreBytes l) : (∀ m ∈ (parseM most l).ms, m.length ≤ most) ∧ (((parseM most l).dead = false ∧ l = (parseM most l).ms.flatMap encM ++ (parseM most l).rest) ∨ ((parseM most l).dead = true ∧ (parseM most l).rest = [] ∧ ∃ t, l = (parseM most l).ms.flatMap encM ++ t ∧ hdM most t = some none)) := by
  induction hn : l.length using Nat.strongRecOn generalizing l with
  | _ n ih =>
    cases hd : hdM most l with
    | none => rw [parseM_none hd]; exact ⟨by simp, .inl ⟨rfl, by simp⟩⟩
    | some x =>
      cases x with
      | none => rw [parseM_bad hd]; exact ⟨by simp, .inr ⟨rfl, rfl, l, by simp, hd⟩⟩
      | some x =>
        obtain ⟨m, k⟩ := x
        have hp := hdM_pos hd
        by_cases hl : l.length < k + m
        · rw [parseM_part hd hl]; exact ⟨by simp, .inl ⟨rfl, by simp⟩⟩
        · rw [parseM_more hd (by omega)]
          obtain ⟨i1, i2⟩ := ih (l.drop (k + m)).length (by simp; omega) (l.drop (k + m)) (fun y hy => hb y (List.mem_of_mem_drop hy)) rfl
          have hlen : ((l.drop k).take m).length = m := by simp; omega
          obtain ⟨h1, h2⟩ := hdM_only hb hd
          have e : l = encM ((l.drop k).take m) ++ l.drop (k + m) := by
            unfold encM
            rw [hlen, ← h1, List.append_assoc, ← List.drop_drop, List.take_append_drop, List.take_append_drop]
          refine ⟨?_, ?_⟩
          · intro y hy
            rcases List.mem_cons.1 hy with rfl | hy
            · rw [hlen]; omega
            · exact i1 y hy
          · rcases i2 with ⟨d1, d2⟩ | ⟨d1, d2, t, d3, d4⟩
            · refine .inl ⟨d1, ?_⟩
              rw [List.flatMap_cons, List.append_assoc, ← d2]
              exact e
            · refine .inr ⟨d1, d2, t, ?_, d4⟩
              rw [List.flatMap_cons, List.append_assoc, ← d3]
              exact e
/-- a reader with a greater most -/
theorem hdM_mono {most' : Nat} (hm : most ≤ most') {n k : Nat} (h : hdM most l = some (some (n, k))) : hdM most' l = some (some (n, k)) := by
  unfold hdM at h ⊢
  split at h
  · cases h
  · try dsimp only
    split at h
    · rename_i h1
      rw [if_pos h1]
      split at h
      · cases h
      · rw [if_neg (by omega)]; exact h
    · rename_i h1
      rw [if_neg h1]
      split at h
      · cases h
      · try dsimp only
        split at h
        · rename_i h2
          rw [if_pos h2]
          split at h
          · cases h
          · rw [if_neg (by omega)]; exact h
        · rename_i h2
          rw [if_neg h2]
          split at h
          · cases h
          · try dsimp only
            split at h
            · rename_i h3
              rw [if_pos h3]
              split at h
              · cases h
              · rw [if_neg (by omega)]; exact h
            · cases h
theorem parseM_mono {most' : Nat} (hm : most ≤ most') (l : List Int) : (parseM most l).ms <+: (parseM most' l).ms := by
  induction hn : l.length using Nat.strongRecOn generalizing l with
  | _ n ih =>
    cases hd : hdM most l with
    | none => rw [parseM_none hd]; exact List.nil_prefix
    | some x =>
      cases x with
      | none => rw [parseM_bad hd]; exact List.nil_prefix
      | some x =>
        obtain ⟨m, k⟩ := x
        have hp := hdM_pos hd
        by_cases hl : l.length < k + m
        · rw [parseM_part hd hl]; exact List.nil_prefix
        · rw [parseM_more hd (by omega), parseM_more (hdM_mono hm hd) (by omega)]
          exact List.cons_prefix_cons.2 ⟨rfl, ih (l.drop (k + m)).length (by simp; omega) (l.drop (k + m)) rfl⟩
end Go.Proofs.YtnocalkloinbbaaDoor
