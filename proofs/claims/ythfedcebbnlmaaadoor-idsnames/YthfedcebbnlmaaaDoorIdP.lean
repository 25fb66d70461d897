/-
  numbers of streams, in numbers; of whatever program
-/
import Derived.Test.YthfedcebbnlmaaaDoorSnA
namespace Go.Proofs.YthfedcebbnlmaaaDoor
open Go.RowKit

/-- an end's numbers: its parity, the first own one that was not passed over, the next one, the marks of the even and of the odd ones -/
structure Im where
  o : Int
  b : Int
  n : Int
  m0 : Int
  m1 : Int
/-- the mark of a parity -/
def Im.mark (x : Im) (k : Int) : Int := if k = 0 then x.m0 else x.m1
def Im.rise (x : Im) (id : Int) : Im := if id % 2 = 0 then { x with m0 := id } else { x with m1 := id }
structure Im.Ok (x : Im) : Prop where
  o01 : x.o = 0 ∨ x.o = 1
  b1 : 2 - x.o ≤ x.b
  b2 : (x.b + x.o) % 2 = 0
  b3 : x.b ≤ 4294967296
  n1 : x.b ≤ x.n
  n2 : (x.n + x.o) % 2 = 0
  n3 : x.n ≤ 4294967296 + x.o
  p0 : 0 ≤ x.m0
  q0 : x.m0 ≤ 4294967295
  p1 : 0 ≤ x.m1
  q1 : x.m1 ≤ 4294967295
  mo : x.mark x.o < x.n
/-- is a number this end's own? -/
def Im.mine (x : Im) (id : Int) : Bool := id != 0 && id % 2 == x.o
def Im.known (x : Im) (id : Int) : Bool := id != 0 && decide (id ≤ x.mark (id % 2))
def Im.left (x : Im) : Int := (4294967296 + x.o - x.n) / 2
/-- New -/
def Im.new (o skip : Int) : Im := ⟨o, 2 - o + 2 * skip, 2 - o + 2 * skip, 0, 0⟩
theorem Im.new_ok {o skip : Int} (ho : o = 0 ∨ o = 1) (h0 : 0 ≤ skip) (h1 : skip ≤ 2147483647) : (Im.new o skip).Ok := by
  refine ⟨ho, ?_, ?_, ?_, ?_, ?_, ?_, ?_, ?_, ?_, ?_, ?_⟩ <;> simp only [Im.new, Im.mark] <;> (try split) <;> omega
def Im.next (x : Im) : Im := { x with n := x.n + 2 }
theorem Im.Ok.next {x : Im} (h : x.Ok) (hn : x.n ≤ 4294967295) : x.next.Ok := by
  obtain ⟨a1, a2, a3, a4, a5, a6, a7, a8, a9, a10, a11, a12⟩ := h
  refine ⟨a1, a2, a3, a4, ?_, ?_, ?_, a8, a9, a10, a11, ?_⟩
  · show x.b ≤ x.n + 2; omega
  · show (x.n + 2 + x.o) % 2 = 0; omega
  · show x.n + 2 ≤ 4294967296 + x.o; omega
  · show x.mark x.o < x.n + 2; omega
theorem Im.Ok.rise {x : Im} (h : x.Ok) {id : Int} (h0 : 0 ≤ id) (h1 : id ≤ 4294967295) (hm : id % 2 = x.o → id < x.n) : (x.rise id).Ok := by
  obtain ⟨a1, a2, a3, a4, a5, a6, a7, a8, a9, a10, a11, a12⟩ := h
  unfold Im.mark at a12
  by_cases hp : id % 2 = 0
  · have e : x.rise id = { x with m0 := id } := if_pos hp
    rw [e]
    refine ⟨a1, a2, a3, a4, a5, a6, a7, h0, h1, a10, a11, ?_⟩
    show (if x.o = 0 then id else x.m1) < x.n
    by_cases ho : x.o = 0
    · rw [if_pos ho]; exact hm (hp.trans ho.symm)
    · rw [if_neg ho] at a12 ⊢; exact a12
  · have e : x.rise id = { x with m1 := id } := if_neg hp
    rw [e]
    refine ⟨a1, a2, a3, a4, a5, a6, a7, a8, a9, h0, h1, ?_⟩
    show (if x.o = 0 then x.m0 else id) < x.n
    by_cases ho : x.o = 0
    · rw [if_pos ho] at a12 ⊢; exact a12
    · rw [if_neg ho]; exact hm (by omega)
theorem Im.left_pos {x : Im} (h : x.Ok) (hn : x.n ≤ 4294967295) : ¬ x.left = 0 := by
  have := h.n2; have := h.n3; have := h.o01
  unfold Im.left
  omega
theorem Im.left_zero {x : Im} (h : x.Ok) (hn : ¬ x.n ≤ 4294967295) : x.left = 0 := by
  have := h.n2; have := h.n3; have := h.o01
  unfold Im.left
  omega
theorem Im.mine_iff {x : Im} {id : Int} : x.mine id = true ↔ id ≠ 0 ∧ id % 2 = x.o := by
  unfold Im.mine
  simp [bne_iff_ne]
theorem Im.known_iff {x : Im} {id : Int} : x.known id = true ↔ id ≠ 0 ∧ id ≤ x.mark (id % 2) := by
  unfold Im.known
  simp [bne_iff_ne]
theorem Im.mark_rise {x : Im} {id : Int} : (x.rise id).mark (id % 2) = id := by
  unfold Im.rise Im.mark
  split <;> rfl
theorem Im.mark_rise_other {x : Im} {id k : Int} (hk : k = 0 ∨ k = 1) (h : id % 2 ≠ k) : (x.rise id).mark k = x.mark k := by
  unfold Im.rise
  rcases hk with rfl | rfl
  · rw [if_neg h]; rfl
  · rw [if_pos (by omega)]; rfl
theorem Im.rise_o {x : Im} {id : Int} : (x.rise id).o = x.o := by unfold Im.rise; split <;> rfl
theorem Im.rise_b {x : Im} {id : Int} : (x.rise id).b = x.b := by unfold Im.rise; split <;> rfl
theorem Im.rise_n {x : Im} {id : Int} : (x.rise id).n = x.n := by unfold Im.rise; split <;> rfl
/-- what Sent answers and leaves -/
def Im.sentE (x : Im) (id : Int) : Int := if x.mine id then (if x.b ≤ id ∧ id < x.n then (if x.known id then 19 else 0) else 9) else 18
def Im.sent (x : Im) (id : Int) : Im := if x.sentE id = 0 then x.rise id else x
/-- what Hear answers and leaves -/
def Im.hearE (x : Im) (id : Int) : Int := if id = 0 then 14 else if x.mine id then 18 else if x.known id then 19 else 0
def Im.hear (x : Im) (id : Int) : Im := if x.hearE id = 0 then x.rise id else x
theorem Im.Ok.sent {x : Im} (h : x.Ok) {id : Int} (h0 : 0 ≤ id) (h1 : id ≤ 4294967295) : (x.sent id).Ok := by
  unfold Im.sent
  split
  · rename_i e
    refine h.rise h0 h1 (fun _ => ?_)
    unfold Im.sentE at e
    split at e
    · split at e
      · rename_i hh; exact hh.2
      · omega
    · omega
  · exact h
theorem Im.Ok.hear {x : Im} (h : x.Ok) {id : Int} (h0 : 0 ≤ id) (h1 : id ≤ 4294967295) : (x.hear id).Ok := by
  unfold Im.hear
  split
  · rename_i e
    refine h.rise h0 h1 (fun hp => ?_)
    unfold Im.hearE at e
    split at e
    · omega
    · rename_i hn
      have : x.mine id = true := Im.mine_iff.2 ⟨hn, hp⟩
      rw [this] at e
      simp at e
  · exact h
end Go.Proofs.YthfedcebbnlmaaaDoor
