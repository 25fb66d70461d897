/-
  a reader's state in numbers: the bytes of a length that have come, and of the message (layer 27). Of whatever program.
-/
import Derived.Test.YtnocalkloinbbaaDoorMsP
namespace Go.Proofs.YtnocalkloinbbaaDoor

/-- what the bytes of a length write, as far as they are there -/
def lenOf : List Int → Nat
  | [] => 0
  | a :: t => (a % 128).toNat + 128 * lenOf t
/-- h of the length (z: all of it), B of the message -/
def Part (most : Nat) (h : List Int) (z : Bool) (B : List Int) : Prop :=
  if z then hdM most h = some (some (lenOf h, h.length)) ∧ B.length ≤ lenOf h else h.length ≤ 2 ∧ (∀ x ∈ h, 128 ≤ x ∧ x < 256) ∧ B = []
variable {most : Nat} {h B r : List Int} {c : Int}
/-- the error's number behind a Feed -/
def codeM (o : MOut) : Int := if o.dead then 15 else 0
theorem part_new : Part most [] false [] := ⟨by simp, fun x hx => (by cases hx), rfl⟩
theorem lenOf_snoc (h : List Int) (c : Int) : lenOf (h ++ [c]) = lenOf h + (c % 128).toNat * 128 ^ h.length := by
  induction h with
  | nil => simp [lenOf]
  | cons a t ih => simp only [List.cons_append, lenOf, ih, List.length_cons, Nat.pow_succ, Nat.mul_add]; rw [Nat.add_assoc]; congr 2; rw [← Nat.mul_assoc, Nat.mul_comm 128, Nat.mul_assoc]; congr 1; rw [Nat.mul_comm]
theorem lenOf_lt (h : List Int) : lenOf h < 128 ^ h.length := by
  induction h with
  | nil => simp [lenOf]
  | cons a t ih => simp only [lenOf, List.length_cons, Nat.pow_succ]; omega
theorem part_short (p : Part most h false B) : h = [] ∨ (∃ a, h = [a] ∧ 128 ≤ a ∧ a < 256) ∨ ∃ a b, h = [a, b] ∧ (128 ≤ a ∧ a < 256) ∧ 128 ≤ b ∧ b < 256 := by
  have h1 : h.length ≤ 2 := p.1
  have h2 : ∀ x ∈ h, 128 ≤ x ∧ x < 256 := p.2.1
  match h, h1, h2 with
  | [], _, _ => exact .inl rfl
  | [a], _, h2 => exact .inr (.inl ⟨a, rfl, h2 a (by simp)⟩)
  | [a, b], _, h2 => exact .inr (.inr ⟨a, b, rfl, h2 a (by simp), h2 b (by simp)⟩)
  | a :: b :: c :: t, h1, _ => simp at h1
/-- a byte with the bit 128 set -/
theorem part_high (p : Part most h false B) (hc : 128 ≤ c ∧ c < 256) (hl : h.length < 2) : Part most (h ++ [c]) false [] := by
  refine ⟨by simp; omega, fun x hx => ?_, rfl⟩
  rcases List.mem_append.1 hx with hx | hx
  · exact p.2.1 x hx
  · simp only [List.mem_singleton] at hx; rw [hx]; exact hc
theorem hd_third (p : Part most h false B) (hc : 128 ≤ c) (hl : ¬ h.length < 2) (r : List Int) : hdM most (h ++ c :: r) = some none := by
  rcases part_short p with rfl | ⟨a, rfl, ha⟩ | ⟨a, b, rfl, ha, hb⟩
  · simp at hl
  · simp at hl
  · simp only [List.cons_append, List.nil_append, hdM]
    rw [if_neg (by omega), if_neg (by omega), if_neg (by omega)]
/-- the last byte of a length -/
theorem part_last (p : Part most h false B) (hc : 0 ≤ c ∧ c < 128) (h0 : c ≠ 0 ∨ h.length = 0) (hm : lenOf (h ++ [c]) ≤ most) : Part most (h ++ [c]) true [] := by
  refine ⟨?_, Nat.zero_le _⟩
  rcases part_short p with rfl | ⟨a, rfl, ha⟩ | ⟨a, b, rfl, ha, hb⟩
  · simp only [List.nil_append, lenOf, hdM, List.length_cons, List.length_nil] at hm ⊢
    rw [if_pos (by omega), if_neg (by omega)]
    congr 3
    omega
  · simp only [List.cons_append, List.nil_append, lenOf, hdM, List.length_cons, List.length_nil] at hm h0 ⊢
    rw [if_neg (by omega), if_pos (by omega), if_neg (by omega)]
    congr 3
    omega
  · simp only [List.cons_append, List.nil_append, lenOf, hdM, List.length_cons, List.length_nil] at hm h0 ⊢
    rw [if_neg (by omega), if_neg (by omega), if_pos (by omega), if_neg (by omega)]
    congr 3
    omega
theorem hd_last (p : Part most h false B) (hc : 0 ≤ c ∧ c < 128) (hb : ¬ ((c ≠ 0 ∨ h.length = 0) ∧ lenOf (h ++ [c]) ≤ most)) (r : List Int) : hdM most (h ++ c :: r) = some none := by
  rcases part_short p with rfl | ⟨a, rfl, ha⟩ | ⟨a, b, rfl, ha, hb'⟩
  · have hb2 : ¬ lenOf ([] ++ [c]) ≤ most := fun x => hb ⟨.inr rfl, x⟩
    simp only [List.nil_append, lenOf, hdM] at hb2 ⊢
    rw [if_pos (by omega), if_pos (by omega)]
  · simp only [List.cons_append, List.nil_append, lenOf, hdM, List.length_cons, List.length_nil] at hb ⊢
    rw [if_neg (by omega), if_pos (by omega), if_pos (by omega)]
  · simp only [List.cons_append, List.nil_append, lenOf, hdM, List.length_cons, List.length_nil] at hb ⊢
    rw [if_neg (by omega), if_neg (by omega), if_pos (by omega), if_pos (by omega)]
/-- a message is whole -/
theorem parse_whole (p : Part most h true B) (hl : B.length = lenOf h) (r : List Int) : parseM most (h ++ B ++ r) = ⟨B :: (parseM most r).ms, (parseM most r).rest, (parseM most r).dead⟩ := by
  have hd := hdM_app p.1 (B ++ r)
  rw [List.append_assoc, parseM_more hd (by simp; omega)]
  have e1 : (h ++ (B ++ r)).drop (h.length + lenOf h) = r := by rw [← List.drop_drop, List.drop_left, ← hl, List.drop_left]
  have e2 : ((h ++ (B ++ r)).drop h.length).take (lenOf h) = B := by rw [List.drop_left, ← hl, List.take_left]
  rw [e1, e2]
theorem part_none (p : Part most h false B) : hdM most h = none := by
  rcases part_short p with rfl | ⟨a, rfl, ha⟩ | ⟨a, b, rfl, ha, hb⟩
  · rfl
  · simp only [hdM]; rw [if_neg (by omega)]
  · simp only [hdM]; rw [if_neg (by omega), if_neg (by omega)]
theorem part_live {z : Bool} (p : Part most h z B) (hw : ¬ (z = true ∧ B.length = lenOf h)) : LiveM most (h ++ B) := by
  cases z with
  | true =>
    have hl := p.2
    exact .inr ⟨lenOf h, h.length, hdM_app p.1 B, by simp; have : B.length ≠ lenOf h := fun e => hw ⟨rfl, e⟩; omega⟩
  | false =>
    obtain rfl := p.2.2
    exact .inl (by rw [List.append_nil]; exact part_none p)
theorem part_take {b : List Int} {k : Nat} (p : Part most h true B) (hk : k ≤ b.length) (hl : B.length + k ≤ lenOf h) : Part most h true (B ++ b.take k) := ⟨p.1, by rw [List.length_append, List.length_take]; omega⟩
theorem part_len {z : Bool} (p : Part most h z B) : h.length ≤ 3 ∧ lenOf h ≤ max most 16383 ∧ B.length ≤ most := by
  cases z with
  | true =>
    have := hdM_pos p.1
    have := p.2
    omega
  | false =>
    have h1 := p.1
    obtain rfl := p.2.2
    have h2 := lenOf_lt h
    have : 128 ^ h.length ≤ 128 ^ 2 := Nat.pow_le_pow_right (by decide) h1
    simp
    omega
end Go.Proofs.YtnocalkloinbbaaDoor
