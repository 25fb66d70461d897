/-
  slices of bytes that can be read, and parts of them
-/
import Derived.Test.YtnocalkloinbbaaDoorAppO
namespace Go.Proofs.YtnocalkloinbbaaDoor
open Go.RowKit

/-- a slice of bytes that can be read, in no block of S -/
def RdS (S : Nat → Prop) (w : World) (v : Value) (ns : List Int) : Prop := ReadsOff S w v (bv ns) ∧ NilOk v
section
variable {S : Nat → Prop} {w w' : World} {v : Value} {ns : List Int}
theorem RdS.rd (h : RdS S w v ns) : Rd w v ns := ⟨h.1.mono (fun _ x _ => x.elim), h.2⟩
theorem RdS.later (h : RdS S w v ns) (hk : Keeps S w w') : RdS (fun k => S k ∨ w.heap.size ≤ k) w' v ns := ⟨h.1.later hk, h.2⟩
theorem RdS.mono {S' : Nat → Prop} (h : RdS S w v ns) (hs : ∀ k, S' k → k < w.heap.size → S k) : RdS S' w v ns := ⟨h.1.mono hs, h.2⟩
theorem RdS.shape (h : RdS S w v ns) : ∃ p c, v = .slice p ns.length c ∧ ns.length ≤ c := by
  obtain ⟨⟨a, c, rfl, hl, _⟩, _⟩ := h
  rw [bv_length] at *
  exact ⟨a, c, rfl, hl⟩
theorem RdS.drop {x : Option Addr} {l c n : Nat} {ns : List Int} (h : RdS S w (.slice x l c) ns) (hn : n ≤ ns.length) : RdS S w (.slice (if c = n then x else x.map (·.add n)) (l - n) (c - n)) (ns.drop n) := by
  cases x with
  | none =>
    have hc := h.2 _ _ rfl
    obtain ⟨⟨a, c', e, hl, hcell⟩, _⟩ := h
    injection e with e1 e2 e3
    rw [bv_length] at e2 hl
    subst e1 e2 e3
    obtain rfl : c = 0 := hc
    have e0 : ns = [] := List.eq_nil_of_length_eq_zero (by omega)
    subst e0
    refine ⟨⟨none, 0, ?_, by simp [bv], fun j u hj => by simp [bv] at hj⟩, fun l' c' e => ?_⟩
    · simp [bv]
    · injection e with _ _ e3; omega
  | some ad =>
    refine ⟨?_, ?_⟩
    · have := h.1.drop n (by rw [bv_length]; exact hn)
      rw [bv_drop]
      simpa using this
    · intro l' c' e
      injection e with e1 _ _
      exfalso
      revert e1
      split <;> simp
/-- a part of a slice of bytes -/
theorem RdS.seg {x : Option Addr} {l c a n : Nat} {ns : List Int} (h : RdS S w (.slice x l c) ns) (hn : a + n ≤ ns.length) : RdS S w (.slice (if c = a then x else x.map (·.add a)) n (c - a)) ((ns.drop a).take n) := by
  have h1 := h.drop (n := a) (by omega)
  refine ⟨?_, fun l' c' e => ?_⟩
  · rw [bv_take]
    exact h1.1.slice n (by rw [bv_length, List.length_drop]; omega)
  · injection e with e1 e2 e3
    exact e3 ▸ h1.2 _ _ (by rw [e1])
end
end Go.Proofs.YtnocalkloinbbaaDoor
