/-
  layer 9's table in numbers: Next, Play; what a path has (P9.4). Of whatever program.
-/
import Derived.Test.YteghehhifebhcaaDoorBase
namespace Go.Proofs.YteghehhifebhcaaDoor

/-- the table, as the program lays it -/
def stTab : List (List Int) :=
  [[1, 2, 0, 0, 0, 0, 0], [0, 0, 0, 3, 4, 5, 7], [0, 0, 3, 0, 4, 5, 7], [0, 0, 0, 0, 4, 5, 7], [0, 0, 4, 4, 0, 6, 7], [0, 0, 5, 5, 6, 0, 7], [0, 0, 6, 6, 0, 0, 7], [0, 0, 0, 0, 0, 0, 7]]
def nx (s e : Int) : Int := (stTab.getD s.toNat []).getD e.toNat 0
def nxS (s e : Int) : Int := if 0 ≤ s ∧ s < 8 ∧ 0 ≤ e ∧ e < 7 then nx s e else 0
def nxE (s e : Int) : Int := if 0 ≤ s ∧ s < 8 ∧ 0 ≤ e ∧ e < 7 then (if nx s e = 0 then 23 else 0) else 2
theorem eight {s : Int} (h0 : 0 ≤ s) (h1 : s < 8) : s = 0 ∨ s = 1 ∨ s = 2 ∨ s = 3 ∨ s = 4 ∨ s = 5 ∨ s = 6 ∨ s = 7 := by omega
theorem seven {e : Int} (h0 : 0 ≤ e) (h1 : e < 7) : e = 0 ∨ e = 1 ∨ e = 2 ∨ e = 3 ∨ e = 4 ∨ e = 5 ∨ e = 6 := by omega
theorem nx_bound (s e : Int) (hs : 0 ≤ s ∧ s < 8) (he : 0 ≤ e ∧ e < 7) : 0 ≤ nx s e ∧ nx s e < 8 := by
  rcases eight hs.1 hs.2 with rfl | rfl | rfl | rfl | rfl | rfl | rfl | rfl <;> rcases seven he.1 he.2 with rfl | rfl | rfl | rfl | rfl | rfl | rfl <;> decide
theorem nxS_bound (s e : Int) : 0 ≤ nxS s e ∧ nxS s e < 8 := by
  unfold nxS
  split
  · next h => exact nx_bound s e ⟨h.1, h.2.1⟩ ⟨h.2.2.1, h.2.2.2⟩
  · decide

def plS : Int → List Int → Int
  | s, [] => s
  | s, e :: l => if nxE s e = 0 then plS (nxS s e) l else s
def plN : Int → List Int → Nat
  | _, [] => 0
  | s, e :: l => if nxE s e = 0 then plN (nxS s e) l + 1 else 0
def plE : Int → List Int → Int
  | _, [] => 0
  | s, e :: l => if nxE s e = 0 then plE (nxS s e) l else nxE s e

/-- k events of the list are taken, and r is reached -/
structure Pl (l : List Int) (k : Nat) (r : Int) : Prop where
  le : k ≤ l.length
  s : ∀ t, plS 0 (l.take k ++ t) = plS r t
  n : ∀ t, plN 0 (l.take k ++ t) = k + plN r t
  e : ∀ t, plE 0 (l.take k ++ t) = plE r t
  r0 : 0 ≤ r
  r8 : r < 8
theorem Pl.start (l : List Int) : Pl l 0 0 := ⟨Nat.zero_le _, fun t => by simp, fun t => by simp, fun t => by simp, by decide, by decide⟩
theorem take_one {l : List Int} {k : Nat} {x : Int} (hx : l[k]? = some x) : l.take (k + 1) = l.take k ++ [x] := by
  obtain ⟨h, rfl⟩ := List.getElem?_eq_some_iff.1 hx
  rw [List.take_add_one, List.getElem?_eq_getElem h]; rfl
theorem drop_one {l : List Int} {k : Nat} {x : Int} (hx : l[k]? = some x) : l.drop k = x :: l.drop (k + 1) := by
  obtain ⟨h, rfl⟩ := List.getElem?_eq_some_iff.1 hx
  exact List.drop_eq_getElem_cons h
theorem Pl.next {l : List Int} {k : Nat} {r x : Int} (h : Pl l k r) (hx : l[k]? = some x) (h0 : nxE r x = 0) : Pl l (k + 1) (nxS r x) := by
  have hk := (List.getElem?_eq_some_iff.1 hx).1
  refine ⟨hk, fun t => ?_, fun t => ?_, fun t => ?_, (nxS_bound r x).1, (nxS_bound r x).2⟩ <;> rw [take_one hx, List.append_assoc]
  · rw [h.s]; simp [plS, h0]
  · rw [h.n]; simp [plN, h0]; omega
  · rw [h.e]; simp [plE, h0]
/-- what Play answers when the next event is not taken -/
theorem Pl.fails {l : List Int} {k : Nat} {r x : Int} (h : Pl l k r) (hx : l[k]? = some x) (h0 : nxE r x ≠ 0) : plS 0 l = r ∧ plN 0 l = k ∧ plE 0 l = nxE r x := by
  have e : l = l.take k ++ (x :: l.drop (k + 1)) := by rw [← drop_one hx, List.take_append_drop]
  have h1 := h.s (x :: l.drop (k + 1))
  have h2 := h.n (x :: l.drop (k + 1))
  have h3 := h.e (x :: l.drop (k + 1))
  rw [← e] at h1 h2 h3
  exact ⟨by rw [h1]; simp [plS, h0], by rw [h2]; simp [plN, h0], by rw [h3]; simp [plE, h0]⟩
/-- what Play answers of the events that are taken -/
theorem Pl.taken {l : List Int} {k : Nat} {r : Int} (h : Pl l k r) : plS 0 (l.take k) = r ∧ plN 0 (l.take k) = k ∧ plE 0 (l.take k) = 0 := by
  have h1 := h.s []
  have h2 := h.n []
  have h3 := h.e []
  rw [List.append_nil] at h1 h2 h3
  exact ⟨h1, h2, h3⟩
theorem Pl.all {l : List Int} {r : Int} (h : Pl l l.length r) : plS 0 l = r ∧ plN 0 l = l.length ∧ plE 0 l = 0 := by
  have := h.taken
  rw [List.take_length] at this
  exact this
theorem pl_taken : ∀ (l : List Int) (s : Int), plN s l ≤ l.length ∧ plS s (l.take (plN s l)) = plS s l ∧ plE s (l.take (plN s l)) = 0 ∧ (plE s l = 0 → plN s l = l.length) ∧ (plE s l ≠ 0 → plN s l < l.length)
  | [], s => by simp [plN, plS, plE]
  | e :: l, s => by
    by_cases h : nxE s e = 0
    · obtain ⟨h1, h2, h3, h4, h5⟩ := pl_taken l (nxS s e)
      simp only [plN, plS, plE, h, if_true, List.length_cons, List.take_succ_cons]
      exact ⟨by omega, h2, h3, fun x => by have := h4 x; omega, fun x => by have := h5 x; omega⟩
    · simp [plN, plS, plE, h]
theorem pl_bound : ∀ (l : List Int) (s : Int), 0 ≤ s ∧ s < 8 → 0 ≤ plS s l ∧ plS s l < 8
  | [], _, h => h
  | e :: l, s, h => by
    simp only [plS]
    split
    · exact pl_bound l _ (nxS_bound s e)
    · exact h

/-- how often x stands in the list -/
def cnt (l : List Int) (x : Int) : Nat := l.countP (fun y => y == x)
theorem cnt_snoc (l : List Int) (x y : Int) : ∃ d, cnt (l ++ [y]) x = cnt l x + d ∧ (y = x → d = 1) ∧ (y ≠ x → d = 0) := by
  refine ⟨if y = x then 1 else 0, by simp [cnt, List.countP_append, List.countP_cons], fun h => by simp [h], fun h => by simp [h]⟩
theorem cnt_le (l : List Int) (x : Int) : cnt l x ≤ l.length := List.countP_le_length
/-- what a list of events has that leads to s -/
structure Path (l : List Int) (s : Int) : Prop where
  nil : s = 0 ↔ l = []
  first : ∀ x, l[0]? = some x → x = 0 ∨ x = 1
  once : s ≠ 0 → cnt l 0 + cnt l 1 = 1
  outs : (s = 4 ∨ s = 6 → cnt l 4 = 1) ∧ (s ≠ 4 → s ≠ 6 → s ≠ 7 → cnt l 4 = 0)
  ins : (s = 5 ∨ s = 6 → cnt l 5 = 1) ∧ (s ≠ 5 → s ≠ 6 → s ≠ 7 → cnt l 5 = 0)
  outs1 : cnt l 4 ≤ 1
  ins1 : cnt l 5 ≤ 1
  resets : 0 < cnt l 6 ↔ s = 7
  tail : ∀ i x, l.length - cnt l 6 ≤ i → l[i]? = some x → x = 6
theorem Path.start : Path [] 0 := ⟨by simp, by simp, by simp, by simp [cnt], by simp [cnt], by simp [cnt], by simp [cnt], by simp [cnt], by simp⟩
theorem snoc_first {l : List Int} {e x : Int} (h : (l ++ [e])[0]? = some x) : l[0]? = some x ∨ (l = [] ∧ x = e) := by
  cases l with
  | nil => simp at h; exact .inr ⟨rfl, h.symm⟩
  | cons a l => simpa using h
theorem snoc_get {l : List Int} {e x : Int} {i : Nat} (h : (l ++ [e])[i]? = some x) : l[i]? = some x ∨ (i = l.length ∧ x = e) := by
  rw [List.getElem?_append] at h
  split at h
  · exact .inl h
  · rw [List.getElem?_singleton] at h
    split at h
    · injection h with h; exact .inr ⟨by omega, h.symm⟩
    · cases h
theorem nxE_zero {s e : Int} (h : nxE s e = 0) : (0 ≤ s ∧ s < 8 ∧ 0 ≤ e ∧ e < 7) ∧ nx s e ≠ 0 ∧ nxS s e = nx s e := by
  unfold nxE at h
  unfold nxS
  split at h
  · next hr => 
    split at h
    · cases h
    · next h0 => exact ⟨hr, h0, if_pos hr⟩
  · cases h
/-- the table's ways: which event leads where -/
theorem nx_ways {s e : Int} (hs : 0 ≤ s ∧ s < 8) (he : 0 ≤ e ∧ e < 7) (h : nx s e ≠ 0) :
    (s = 0 ∧ (e = 0 ∧ nx s e = 1 ∨ e = 1 ∧ nx s e = 2)) ∨ (s ≠ 0 ∧ e = 6 ∧ nx s e = 7) ∨
    (s ≠ 0 ∧ s ≠ 7 ∧ (e = 2 ∨ e = 3) ∧ (nx s e = s ∧ 4 ≤ s ∨ (s = 1 ∨ s = 2) ∧ nx s e = 3)) ∨
    ((1 ≤ s ∧ s ≤ 3) ∧ e = 4 ∧ nx s e = 4) ∨ (s = 5 ∧ e = 4 ∧ nx s e = 6) ∨
    ((1 ≤ s ∧ s ≤ 3) ∧ e = 5 ∧ nx s e = 5) ∨ (s = 4 ∧ e = 5 ∧ nx s e = 6) := by
  revert h
  rcases eight hs.1 hs.2 with rfl | rfl | rfl | rfl | rfl | rfl | rfl | rfl <;> rcases seven he.1 he.2 with rfl | rfl | rfl | rfl | rfl | rfl | rfl <;> decide
theorem Path.next {l : List Int} {s e : Int} (h : Path l s) (h0 : nxE s e = 0) : Path (l ++ [e]) (nxS s e) := by
  obtain ⟨⟨a1, a2, a3, a4⟩, hn, hS⟩ := nxE_zero h0
  rw [hS]
  have hw := nx_ways ⟨a1, a2⟩ ⟨a3, a4⟩ hn
  obtain ⟨t, ht⟩ : ∃ t, nx s e = t := ⟨_, rfl⟩
  rw [ht] at hw hn ⊢
  clear ht h0 hS
  obtain ⟨p1, p2, p3, p4, p5, p6, p7, p8, p9⟩ := h
  obtain ⟨d0, c0, x0, y0⟩ := cnt_snoc l 0 e
  obtain ⟨d1, c1, x1, y1⟩ := cnt_snoc l 1 e
  obtain ⟨d4, c4, x4, y4⟩ := cnt_snoc l 4 e
  obtain ⟨d5, c5, x5, y5⟩ := cnt_snoc l 5 e
  obtain ⟨d6, c6, x6, y6⟩ := cnt_snoc l 6 e
  have z : l = [] → cnt l 0 = 0 ∧ cnt l 1 = 0 := by rintro rfl; exact ⟨rfl, rfl⟩
  have z6 := cnt_le l 6
  refine ⟨⟨fun x => absurd x hn, fun x => by simp at x⟩, fun x hx => ?_, fun _ => ?_, ?_, ?_, ?_, ?_, ?_, fun i x hi hx => ?_⟩
  · rcases snoc_first hx with h1 | ⟨h1, rfl⟩
    · exact p2 x h1
    · have := p1.2 h1
      omega
  · by_cases hs : s = 0
    · have := z (p1.1 hs)
      rw [c0, c1]
      omega
    · have := p3 hs
      rw [c0, c1]
      omega
  · rw [c4]; omega
  · rw [c5]; omega
  · rw [c4]; omega
  · rw [c5]; omega
  · rw [c6]; omega
  · rcases snoc_get hx with h1 | ⟨h1, rfl⟩
    · by_cases h7 : s = 7
      · exact p9 i x (by rw [List.length_append, c6] at hi; simp only [List.length_singleton] at hi; omega) h1
      · have hlt := (List.getElem?_eq_some_iff.1 h1).1
        rw [List.length_append, c6] at hi
        simp only [List.length_singleton] at hi
        omega
    · by_cases h7 : s = 7
      · omega
      · rw [List.length_append, c6] at hi
        simp only [List.length_singleton] at hi
        omega
theorem path_any : ∀ (t l : List Int) (s : Int), Path l s → plE s t = 0 → Path (l ++ t) (plS s t)
  | [], l, s, h, _ => by simpa [plS] using h
  | e :: t, l, s, h, h0 => by
    simp only [plE, plS] at h0 ⊢
    by_cases he : nxE s e = 0
    · rw [if_pos he] at h0 ⊢
      have := path_any t (l ++ [e]) _ (h.next he) h0
      simpa using this
    · rw [if_neg he] at h0
      exact absurd h0 he
theorem path_of (l : List Int) (h : plE 0 l = 0) : Path l (plS 0 l) := by
  have := path_any l [] 0 Path.start h
  simpa using this
end Go.Proofs.YteghehhifebhcaaDoor
