/-
  RobinFair in lists: who was answered, who waits. Of whatever program.
-/
import Derived.Test.YtekokdfajbajoaaRbP
namespace Go.Proofs.Ytekokdfajbajoaa

/-- how many were answered since s was -/
def since (s : Int) (T : List Int) : Nat := T.foldl (fun d x => if x = s then 0 else d + 1) 0
/-- how often s was answered since o was -/
def cnt (s o : Int) (T : List Int) : Nat := T.foldl (fun c x => if x = s then (if x = o then 0 else c) + 1 else if x = o then 0 else c) 0
theorem since_snoc (s : Int) (T : List Int) (x : Int) : since s (T ++ [x]) = if x = s then 0 else since s T + 1 := by unfold since; rw [List.foldl_append]; rfl
theorem cnt_snoc (s o : Int) (T : List Int) (x : Int) : cnt s o (T ++ [x]) = if x = s then (if x = o then 0 else cnt s o T) + 1 else if x = o then 0 else cnt s o T := by unfold cnt; rw [List.foldl_append]; rfl
def Gap (s : Int) (most : Nat) (T : List Int) : Prop := ∀ n, T[n]? = some s → since s (T.take n) < most
def Bt (s o : Int) (T : List Int) : Prop := ∀ n, n ≤ T.length → cnt s o (T.take n) ≤ 1
theorem since_le (s : Int) (T : List Int) : ∀ n, n ≤ T.length → since s (T.take n) ≤ n := by
  intro n
  induction n with
  | zero => intro _; simp [since]
  | succ n ih =>
    intro h
    have := ih (by omega)
    rw [List.take_add_one, List.getElem?_eq_getElem (by omega), Option.toList_some, since_snoc]
    split <;> omega
theorem Gap.mono {s : Int} {m m' : Nat} {T : List Int} (h : Gap s m T) (hm : m ≤ m') : Gap s m' T := fun n hn => Nat.lt_of_lt_of_le (h n hn) hm
theorem Gap.snoc {s : Int} {m : Nat} {T : List Int} {x : Int} (h : Gap s m T) (hx : x = s → since s T < m) : Gap s m (T ++ [x]) := by
  intro n hn
  rcases Nat.lt_or_ge n T.length with hl | hl
  · rw [List.getElem?_append_left hl] at hn
    rw [List.take_append_of_le_length (Nat.le_of_lt hl)]
    exact h n hn
  · have hl2 : n < (T ++ [x]).length := (List.getElem?_eq_some_iff.1 hn).1
    rw [List.length_append, List.length_singleton] at hl2
    obtain rfl : n = T.length := by omega
    rw [List.getElem?_append_right (Nat.le_refl _), Nat.sub_self] at hn
    rw [List.take_append_of_le_length (Nat.le_refl _), List.take_length]
    exact hx (Option.some.inj hn)
theorem Bt.snoc {s o : Int} {T : List Int} {x : Int} (h : Bt s o T) (hx : cnt s o (T ++ [x]) ≤ 1) : Bt s o (T ++ [x]) := by
  intro n hn
  rw [List.length_append, List.length_singleton] at hn
  rcases Nat.lt_or_ge T.length n with hl | hl
  · rw [List.take_of_length_le (by simp; omega)]
    exact hx
  · rw [List.take_append_of_le_length hl]
    exact h n hl

def st (j : Nat) : Int := -1 - j
def stays (n : Nat) : List Int := (List.range n).map st
theorem st_inj {i j : Nat} (h : st i = st j) : i = j := by unfold st at h; omega
theorem st_neg (j : Nat) : st j < 0 := by unfold st; omega
theorem stays_succ (n : Nat) : stays (n + 1) = stays n ++ [st n] := by unfold stays; rw [List.range_succ, List.map_append]; rfl
theorem stays_not (n : Nat) : st n ∉ stays n := by
  intro h
  obtain ⟨j, hj, e⟩ := List.mem_map.1 h
  have := st_inj e
  rw [List.mem_range] at hj
  omega
theorem stays_len (n : Nat) : (stays n).length = n := by simp [stays]
theorem stays_nodup (n : Nat) : (stays n).Nodup := by
  induction n with
  | zero => simp [stays]
  | succ n ih => rw [stays_succ]; exact List.nodup_append.2 ⟨ih, by simp, fun a ha b hb => by rw [List.mem_singleton.1 hb]; exact fun e => stays_not n (e ▸ ha)⟩
theorem stays_at {n j : Nat} (h : j < n) : ∃ a b, stays n = a ++ st j :: b ∧ a.length = j := by
  induction n with
  | zero => omega
  | succ n ih =>
    rw [stays_succ]
    rcases Nat.lt_or_ge j n with hl | hl
    · obtain ⟨a, b, e, hla⟩ := ih hl
      exact ⟨a, b ++ [st n], by rw [e]; simp, hla⟩
    · obtain rfl : j = n := by omega
      exact ⟨stays j, [], rfl, stays_len j⟩

structure Fi (stay most : Nat) (q T : List Int) : Prop where
  nodup : q.Nodup
  big : q.length ≤ most
  pos : ∀ j, j < stay → ∃ a b, q = a ++ st j :: b ∧ since (st j) T + a.length < most
  gap : ∀ j, j < stay → Gap (st j) most T
  ord : ∀ j j', j < stay → j' < stay → j ≠ j' → cnt (st j) (st j') T = 0 ∨ (cnt (st j) (st j') T = 1 ∧ [st j', st j].Sublist q)
  bt : ∀ j j', j < stay → j' < stay → j ≠ j' → Bt (st j) (st j') T

variable {stay most most' : Nat} {q T : List Int} {k : Int}

theorem Fi.start (n : Nat) : Fi n n (stays n) [] := by
  refine ⟨stays_nodup n, by rw [stays_len]; exact Nat.le_refl _, fun j hj => ?_, fun j _ m h => by simp at h, fun j j' _ _ _ => .inl rfl, fun j j' _ _ _ m hm => by simp [cnt]⟩
  obtain ⟨a, b, e, hl⟩ := stays_at hj
  exact ⟨a, b, e, by simp only [since, List.foldl_nil]; omega⟩
theorem Fi.mono (h : Fi stay most q T) (hm : most ≤ most') : Fi stay most' q T :=
  ⟨h.nodup, Nat.le_trans h.big hm, fun j hj => by obtain ⟨a, b, e, hl⟩ := h.pos j hj; exact ⟨a, b, e, Nat.lt_of_lt_of_le hl hm⟩, fun j hj => (h.gap j hj).mono hm, h.ord, h.bt⟩
theorem Fi.add (h : Fi stay most q T) (k : Int) (hm : (addL q k).length ≤ most') (hmm : most ≤ most') : Fi stay most' (addL q k) T := by
  have h := h.mono hmm
  by_cases hin : k ∈ q
  · rw [addL_in hin]; exact h
  rw [addL_new hin] at hm ⊢
  refine ⟨?_, hm, fun j hj => ?_, h.gap, fun j j' hj hj' hne => ?_, h.bt⟩
  · exact List.nodup_append.2 ⟨h.nodup, by simp, fun a ha b hb => by rw [List.mem_singleton.1 hb]; exact fun e => hin (e ▸ ha)⟩
  · obtain ⟨a, b, e, hl⟩ := h.pos j hj
    exact ⟨a, b ++ [k], by rw [e]; simp, hl⟩
  · rcases h.ord j j' hj hj' hne with h0 | ⟨h1, hs⟩
    · exact .inl h0
    · exact .inr ⟨h1, hs.trans (List.sublist_append_left _ _)⟩
theorem Fi.rem (h : Fi stay most q T) (hk : 0 ≤ k) : Fi stay most (remL q k) T := by
  have hne : ∀ j, st j ≠ k := fun j e => by have := st_neg j; omega
  unfold remL
  refine ⟨h.nodup.erase k, Nat.le_trans List.length_erase_le h.big, fun j hj => ?_, h.gap, fun j j' hj hj' hn => ?_, h.bt⟩
  · obtain ⟨a, b, e, hl⟩ := h.pos j hj
    by_cases hka : k ∈ a
    · refine ⟨a.erase k, b, by rw [e, List.erase_append_left _ hka], ?_⟩
      have := List.length_erase_le (a := k) (l := a)
      omega
    · refine ⟨a, b.erase k, ?_, hl⟩
      rw [e, List.erase_append_right _ hka, List.erase_cons_tail (by simpa using hne j)]
  · rcases h.ord j j' hj hj' hn with h0 | ⟨h1, hs⟩
    · exact .inl h0
    · refine .inr ⟨h1, ?_⟩
      have := hs.erase k
      rwa [List.erase_of_not_mem (by simp [(hne j).symm, (hne j').symm])] at this
theorem Fi.next {x : Int} {t : List Int} (h : Fi stay most (x :: t) T) : Fi stay most (t ++ [x]) (T ++ [x]) := by
  have hnd := List.nodup_cons.1 h.nodup
  have key : ∀ j, j < stay → ∃ a b, t ++ [x] = a ++ st j :: b ∧ since (st j) (T ++ [x]) + a.length < most ∧ (x = st j → since (st j) T < most) := by
    intro j hj
    obtain ⟨a, b, e, hl⟩ := h.pos j hj
    have hb := h.big
    cases a with
    | nil =>
      obtain ⟨rfl, rfl⟩ : x = st j ∧ t = b := by simpa using e
      refine ⟨t, [], rfl, ?_, fun _ => by simpa using hl⟩
      rw [since_snoc, if_pos rfl]
      simp only [List.length_cons] at hb
      omega
    | cons y a =>
      obtain ⟨rfl, rfl⟩ : x = y ∧ t = a ++ st j :: b := by simpa using e
      have hx : x ≠ st j := fun e => hnd.1 (by rw [e]; simp)
      refine ⟨a, b ++ [x], by simp, ?_, fun e => absurd e hx⟩
      rw [since_snoc, if_neg hx]
      simp only [List.length_cons] at hl
      omega
  have mem : ∀ j, j < stay → st j ∈ x :: t := fun j hj => by obtain ⟨a, b, e, _⟩ := h.pos j hj; rw [e]; simp
  have ord : ∀ j j', j < stay → j' < stay → j ≠ j' → cnt (st j) (st j') (T ++ [x]) = 0 ∨ (cnt (st j) (st j') (T ++ [x]) = 1 ∧ [st j', st j].Sublist (t ++ [x])) := by
    intro j j' hj hj' hn
    have hss : st j ≠ st j' := fun e => hn (st_inj e)
    rw [cnt_snoc]
    by_cases hx : x = st j
    · rw [if_pos hx, if_neg (by rw [hx]; exact hss)]
      rcases h.ord j j' hj hj' hn with h0 | ⟨h1, hs⟩
      · refine .inr ⟨by rw [h0], ?_⟩
        have hm : st j' ∈ t := by
          rcases List.mem_cons.1 (mem j' hj') with e | e
          · exact absurd (hx.symm.trans e.symm) hss
          · exact e
        have := (List.singleton_sublist.2 hm).append (List.Sublist.refl [x])
        rwa [hx] at this ⊢
      · exfalso
        rcases hs with _ | hs | hs
        · rename_i hs
          exact hnd.1 (by rw [hx]; exact hs.subset (by simp))
        · exact hss hx.symm
    · rw [if_neg hx]
      by_cases hx' : x = st j'
      · rw [if_pos hx']; exact .inl rfl
      · rw [if_neg hx']
        rcases h.ord j j' hj hj' hn with h0 | ⟨h1, hs⟩
        · exact .inl h0
        · refine .inr ⟨h1, ?_⟩
          rcases hs with _ | hs | hs
          · rename_i hs
            exact hs.trans (List.sublist_append_left _ _)
          · exact absurd rfl hx'
  refine ⟨?_, by rw [List.length_append]; exact h.big, fun j hj => by obtain ⟨a, b, e, hl, _⟩ := key j hj; exact ⟨a, b, e, hl⟩, fun j hj => ?_, ord, fun j j' hj hj' hn => ?_⟩
  · exact List.nodup_append.2 ⟨hnd.2, by simp, fun a ha b hb => by rw [List.mem_singleton.1 hb]; exact fun e => hnd.1 (e ▸ ha)⟩
  · obtain ⟨_, _, _, _, hx⟩ := key j hj
    exact (h.gap j hj).snoc hx
  · refine (h.bt j j' hj hj' hn).snoc ?_
    rcases ord j j' hj hj' hn with h0 | ⟨h1, _⟩ <;> omega
theorem Fi.last (h : Fi stay most q T) (j : Nat) (hj : j < stay) : since (st j) T < most := by
  obtain ⟨a, b, _, hl⟩ := h.pos j hj
  omega
theorem Fi.there (h : Fi stay most q T) (h0 : 0 < stay) : ∃ x t, q = x :: t := by
  obtain ⟨a, b, e, _⟩ := h.pos 0 h0
  cases q with
  | nil => simp at e
  | cons x t => exact ⟨x, t, rfl⟩
end Go.Proofs.Ytekokdfajbajoaa
