/-
  A frame's text says which header it is of: words without blanks, one behind the other. Of whatever program.
-/
import Derived.Lib.ItoaNum
namespace Go.Proofs.YthjeeianlgkaaaaDoor.Wd
open Go.Lib

/-- words behind a blank each -/
def tl (ws : List (List UInt8)) : List UInt8 := ws.flatMap (fun w => 32 :: w)
def jn : List (List UInt8) → List UInt8
  | [] => []
  | x :: r => x ++ tl r
theorem head_split {x y a b : List UInt8} (hx : (32 : UInt8) ∉ x) (hy : (32 : UInt8) ∉ y) (ha : a = [] ∨ ∃ r, a = 32 :: r) (hb : b = [] ∨ ∃ r, b = 32 :: r) (h : x ++ a = y ++ b) : x = y ∧ a = b := by
  induction x generalizing y with
  | nil =>
    cases y with
    | nil => exact ⟨rfl, h⟩
    | cons c y =>
      rcases ha with rfl | ⟨r, rfl⟩
      · simp at h
      · simp only [List.nil_append, List.cons_append, List.cons.injEq] at h
        exact absurd h.1 (fun e => hy (by rw [e]; simp))
  | cons c x ih =>
    cases y with
    | nil =>
      rcases hb with rfl | ⟨r, rfl⟩
      · simp at h
      · simp only [List.nil_append, List.cons_append, List.cons.injEq] at h
        exact absurd h.1 (fun e => hx (by rw [e]; simp))
    | cons d y =>
      simp only [List.cons_append, List.cons.injEq] at h
      obtain ⟨e1, e2⟩ := ih (fun hm => hx (by simp [hm])) (y := y) (fun hm => hy (by simp [hm])) h.2
      exact ⟨by rw [h.1, e1], e2⟩
theorem tl_cases (r : List (List UInt8)) : tl r = [] ∨ ∃ q, tl r = 32 :: q := by
  cases r with
  | nil => exact .inl rfl
  | cons x r => exact .inr ⟨x ++ tl r, by simp [tl]⟩
theorem tl_inj : ∀ {a b : List (List UInt8)}, (∀ x ∈ a, (32 : UInt8) ∉ x) → (∀ x ∈ b, (32 : UInt8) ∉ x) → tl a = tl b → a = b
  | [], [], _, _, _ => rfl
  | [], _ :: _, _, _, h => by simp [tl] at h
  | _ :: _, [], _, _, h => by simp [tl] at h
  | x :: a, y :: b, ha, hb, h => by
    have h' : x ++ tl a = y ++ tl b := by simpa [tl] using h
    obtain ⟨e1, e2⟩ := head_split (ha x (by simp)) (hb y (by simp)) (tl_cases a) (tl_cases b) h'
    rw [e1, tl_inj (fun z hz => ha z (by simp [hz])) (fun z hz => hb z (by simp [hz])) e2]
theorem jn_inj {x y : List UInt8} {a b : List (List UInt8)} (ha : ∀ z ∈ x :: a, (32 : UInt8) ∉ z) (hb : ∀ z ∈ y :: b, (32 : UInt8) ∉ z) (h : jn (x :: a) = jn (y :: b)) : x = y ∧ a = b := by
  obtain ⟨e1, e2⟩ := head_split (ha x (by simp)) (hb y (by simp)) (tl_cases a) (tl_cases b) h
  exact ⟨e1, tl_inj (fun z hz => ha z (by simp [hz])) (fun z hz => hb z (by simp [hz])) e2⟩

/-- the numeral says the number -/
def val (ds : List UInt8) : Nat := ds.foldl (fun n d => n * 10 + (d.toNat - 48)) 0
theorem dd_val (n : Nat) : val (decDigits n) = n := by
  induction n using Nat.strongRecOn with
  | ind n ih =>
    by_cases h : n < 10
    · rw [decDigits, dif_pos h]
      simp [val, UInt8.toNat_ofNat']
      omega
    · rw [decDigits, dif_neg h]
      have := ih (n / 10) (by omega)
      unfold val at this ⊢
      rw [List.foldl_append, this]
      simp [UInt8.toNat_ofNat']
      omega
theorem dd_inj {a b : Nat} (h : decDigits a = decDigits b) : a = b := by rw [← dd_val a, ← dd_val b, h]
theorem dd_digit (n : Nat) : ∀ d ∈ decDigits n, 48 ≤ d.toNat ∧ d.toNat ≤ 57 := by
  induction n using Nat.strongRecOn with
  | ind n ih =>
    intro d hd
    by_cases h : n < 10
    · rw [decDigits, dif_pos h] at hd
      obtain rfl := List.mem_singleton.1 hd
      simp [UInt8.toNat_ofNat']
      omega
    · rw [decDigits, dif_neg h] at hd
      rcases List.mem_append.1 hd with hd | hd
      · exact ih (n / 10) (by omega) d hd
      · obtain rfl := List.mem_singleton.1 hd
        simp [UInt8.toNat_ofNat']
        omega
theorem dd_blank (n : Nat) : (32 : UInt8) ∉ decDigits n := fun h => by have := dd_digit n 32 h; simp at this
theorem dd_ne_nil (n : Nat) : decDigits n ≠ [] := by
  rw [decDigits]
  split <;> simp
/-- a word of letters is no numeral -/
theorem dd_word {n : Nat} {c : UInt8} {r : List UInt8} (hc : 57 < c.toNat) : decDigits n ≠ c :: r := fun h => by
  have := dd_digit n c (by rw [h]; simp)
  omega

/-! the words of a header -/
def wT : List (List UInt8) := [[100, 97, 116, 97], [119, 105, 110, 100, 111, 119], [112, 105, 110, 103], [97, 119, 97, 121]]
def ty (t : Nat) : List (List UInt8) := if t < 4 then [wT.getD t []] else [[116, 121, 112, 101], decDigits t]
def ver (v : Nat) : List (List UInt8) := if v = 0 then [] else [[118, 101, 114, 115, 105, 111, 110], decDigits v]
def fl (b : Bool) (w : List UInt8) : List (List UInt8) := if b then [w] else []
def fls (a b c d : Bool) : List (List UInt8) := fl a [115, 121, 110] ++ fl b [97, 99, 107] ++ fl c [102, 105, 110] ++ fl d [114, 115, 116]
def fur (h : Nat) : List (List UInt8) := if h = 0 then [] else [[102, 108, 97, 103, 115], decDigits h]
def fin (s l : Nat) : List (List UInt8) := [[115, 116, 114, 101, 97, 109], decDigits s, [108, 101, 110, 103, 116, 104], decDigits l]
theorem fls_mem {a b c d : Bool} {x : List UInt8} (h : x ∈ fls a b c d) : (x = [115, 121, 110] ∧ a = true) ∨ (x = [97, 99, 107] ∧ b = true) ∨ (x = [102, 105, 110] ∧ c = true) ∨ (x = [114, 115, 116] ∧ d = true) := by
  cases a <;> cases b <;> cases c <;> cases d <;> simp [fls, fl] at h <;> simp [h]
theorem fur_mem {h : Nat} {x : List UInt8} (hx : x ∈ fur h) : x = [102, 108, 97, 103, 115] ∨ x = decDigits h := by
  unfold fur at hx
  split at hx
  · cases hx
  · simpa using hx
theorem ver_mem {h : Nat} {x : List UInt8} (hx : x ∈ ver h) : x = [118, 101, 114, 115, 105, 111, 110] ∨ x = decDigits h := by
  unfold ver at hx
  split at hx
  · cases hx
  · simpa using hx
theorem flags_inj {a b c d a' b' c' d' : Bool} {h h' : Nat} (e : fls a b c d ++ fur h = fls a' b' c' d' ++ fur h') : (a = a' ∧ b = b' ∧ c = c' ∧ d = d') ∧ h = h' := by
  have nd : ∀ (n : Nat) (x : UInt8) (r : List UInt8), 57 < x.toNat → (x :: r) ≠ decDigits n := fun n x r hx e => dd_word hx e.symm
  have m1 : ∀ (x : List UInt8), x ∈ fls a b c d ++ fur h ↔ x ∈ fls a' b' c' d' ++ fur h' := fun x => by rw [e]
  have key : ∀ (a b c d : Bool) (h : Nat), (([115, 121, 110] : List UInt8) ∈ fls a b c d ++ fur h ↔ a = true) ∧ (([97, 99, 107] : List UInt8) ∈ fls a b c d ++ fur h ↔ b = true) ∧ (([102, 105, 110] : List UInt8) ∈ fls a b c d ++ fur h ↔ c = true) ∧ (([114, 115, 116] : List UInt8) ∈ fls a b c d ++ fur h ↔ d = true) := by
    intro a b c d h
    have n1 : ([115, 121, 110] : List UInt8) ∉ fur h := fun hm => by
      rcases fur_mem hm with e | e
      · simp at e
      · exact nd _ _ _ (by decide) e
    have n2 : ([97, 99, 107] : List UInt8) ∉ fur h := fun hm => by
      rcases fur_mem hm with e | e
      · simp at e
      · exact nd _ _ _ (by decide) e
    have n3 : ([102, 105, 110] : List UInt8) ∉ fur h := fun hm => by
      rcases fur_mem hm with e | e
      · simp at e
      · exact nd _ _ _ (by decide) e
    have n4 : ([114, 115, 116] : List UInt8) ∉ fur h := fun hm => by
      rcases fur_mem hm with e | e
      · simp at e
      · exact nd _ _ _ (by decide) e
    refine ⟨?_, ?_, ?_, ?_⟩ <;> simp only [List.mem_append, n1, n2, n3, n4, or_false] <;> cases a <;> cases b <;> cases c <;> cases d <;> simp [fls, fl]
  have k1 := key a b c d h
  have k2 := key a' b' c' d' h'
  have ha : a = a' := by rw [Bool.eq_iff_iff, ← k1.1, ← k2.1]; exact m1 _
  have hb : b = b' := by rw [Bool.eq_iff_iff, ← k1.2.1, ← k2.2.1]; exact m1 _
  have hc : c = c' := by rw [Bool.eq_iff_iff, ← k1.2.2.1, ← k2.2.2.1]; exact m1 _
  have hd : d = d' := by rw [Bool.eq_iff_iff, ← k1.2.2.2, ← k2.2.2.2]; exact m1 _
  subst ha hb hc hd
  refine ⟨⟨rfl, rfl, rfl, rfl⟩, ?_⟩
  have e2 : fur h = fur h' := List.append_cancel_left e
  unfold fur at e2
  split at e2 <;> split at e2
  · omega
  · cases e2
  · cases e2
  · simp only [List.cons.injEq, true_and, and_true] at e2
    exact dd_inj e2
theorem ver_inj {v v' : Nat} {r r' : List (List UInt8)} (hr : ([118, 101, 114, 115, 105, 111, 110] : List UInt8) ∉ r) (hr' : ([118, 101, 114, 115, 105, 111, 110] : List UInt8) ∉ r') (e : ver v ++ r = ver v' ++ r') : v = v' ∧ r = r' := by
  unfold ver at e
  split at e <;> split at e
  · exact ⟨by omega, e⟩
  · exact absurd (show _ ∈ r by rw [show r = _ from e]; simp) hr
  · exact absurd (show _ ∈ r' by rw [← show _ = r' from e]; simp) hr'
  · simp only [List.cons_append, List.nil_append, List.cons.injEq, true_and] at e
    exact ⟨dd_inj e.1, e.2⟩
theorem ty_inj {t t' : Nat} {r r' : List (List UInt8)} (e : ty t ++ r = ty t' ++ r') : t = t' ∧ r = r' := by
  have four : ∀ t : Nat, t < 4 → t = 0 ∨ t = 1 ∨ t = 2 ∨ t = 3 := by omega
  unfold ty at e
  split at e <;> split at e
  · rename_i h1 h2
    rcases four t h1 with rfl | rfl | rfl | rfl <;> rcases four t' h2 with rfl | rfl | rfl | rfl <;> simp [wT] at e <;> first | exact ⟨rfl, e⟩ | exact ⟨rfl, e.2⟩
  · rename_i h1 h2
    rcases four t h1 with rfl | rfl | rfl | rfl <;> simp [wT] at e
  · rename_i h1 h2
    rcases four t' h2 with rfl | rfl | rfl | rfl <;> simp [wT] at e
  · simp only [List.cons_append, List.nil_append, List.cons.injEq, true_and] at e
    exact ⟨dd_inj e.1, e.2⟩
def words (t v : Nat) (a b c d : Bool) (h s l : Nat) : List (List UInt8) := ty t ++ (ver v ++ ((fls a b c d ++ fur h) ++ fin s l))
theorem words_inj {t v h s l t' v' h' s' l' : Nat} {a b c d a' b' c' d' : Bool} (e : words t v a b c d h s l = words t' v' a' b' c' d' h' s' l') : t = t' ∧ v = v' ∧ (a = a' ∧ b = b' ∧ c = c' ∧ d = d') ∧ h = h' ∧ s = s' ∧ l = l' := by
  have nver : ∀ (a b c d : Bool) (h s l : Nat), ([118, 101, 114, 115, 105, 111, 110] : List UInt8) ∉ (fls a b c d ++ fur h) ++ fin s l := by
    intro a b c d h s l hm
    rcases List.mem_append.1 hm with hm | hm
    · rcases List.mem_append.1 hm with hm | hm
      · rcases fls_mem hm with ⟨e, _⟩ | ⟨e, _⟩ | ⟨e, _⟩ | ⟨e, _⟩ <;> simp at e
      · rcases fur_mem hm with e | e
        · simp at e
        · exact dd_word (by decide) e.symm
    · simp only [fin, List.mem_cons, List.not_mem_nil, or_false] at hm
      rcases hm with e | e | e | e
      · simp at e
      · exact dd_word (by decide) e.symm
      · simp at e
      · exact dd_word (by decide) e.symm
  obtain ⟨e1, e2⟩ := ty_inj e
  obtain ⟨e3, e4⟩ := ver_inj (nver _ _ _ _ _ _ _) (nver _ _ _ _ _ _ _) e2
  obtain ⟨e5, e6⟩ := List.append_inj' e4 rfl
  obtain ⟨e7, e8⟩ := flags_inj e5
  simp only [fin, List.cons.injEq, true_and, and_true] at e6
  exact ⟨e1, e3, e7, e8, dd_inj e6.1, dd_inj e6.2⟩
theorem words_blank (t v : Nat) (a b c d : Bool) (h s l : Nat) : ∀ x ∈ words t v a b c d h s l, (32 : UInt8) ∉ x := by
  intro x hx
  unfold words at hx
  rcases List.mem_append.1 hx with hx | hx
  · unfold ty at hx
    split at hx
    · rename_i h4
      have four : t = 0 ∨ t = 1 ∨ t = 2 ∨ t = 3 := by omega
      obtain rfl := List.mem_singleton.1 hx
      rcases four with rfl | rfl | rfl | rfl <;> decide
    · simp only [List.mem_cons, List.not_mem_nil, or_false] at hx
      rcases hx with rfl | rfl
      · decide
      · exact dd_blank _
  · rcases List.mem_append.1 hx with hx | hx
    · rcases ver_mem hx with rfl | rfl
      · decide
      · exact dd_blank _
    · rcases List.mem_append.1 hx with hx | hx
      · rcases List.mem_append.1 hx with hx | hx
        · rcases fls_mem hx with ⟨rfl, _⟩ | ⟨rfl, _⟩ | ⟨rfl, _⟩ | ⟨rfl, _⟩ <;> decide
        · rcases fur_mem hx with rfl | rfl
          · decide
          · exact dd_blank _
      · simp only [fin, List.mem_cons, List.not_mem_nil, or_false] at hx
        rcases hx with rfl | rfl | rfl | rfl
        · decide
        · exact dd_blank _
        · decide
        · exact dd_blank _
theorem words_cons (t v : Nat) (a b c d : Bool) (h s l : Nat) : ∃ x r, words t v a b c d h s l = x :: r := by
  unfold words ty
  split
  · exact ⟨_, _, rfl⟩
  · exact ⟨_, _, rfl⟩
theorem text_inj {t v h s l t' v' h' s' l' : Nat} {a b c d a' b' c' d' : Bool} (e : jn (words t v a b c d h s l) = jn (words t' v' a' b' c' d' h' s' l')) : t = t' ∧ v = v' ∧ (a = a' ∧ b = b' ∧ c = c' ∧ d = d') ∧ h = h' ∧ s = s' ∧ l = l' := by
  obtain ⟨x, r, e1⟩ := words_cons t v a b c d h s l
  obtain ⟨y, q, e2⟩ := words_cons t' v' a' b' c' d' h' s' l'
  have b1 := words_blank t v a b c d h s l
  have b2 := words_blank t' v' a' b' c' d' h' s' l'
  rw [e1] at b1
  rw [e2] at b2
  rw [e1, e2] at e
  obtain ⟨e3, e4⟩ := jn_inj b1 b2 e
  apply words_inj
  rw [e1, e2, e3, e4]
end Go.Proofs.YthjeeianlgkaaaaDoor.Wd
