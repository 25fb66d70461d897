/-
  package fifo at uint32: what Remove leans on, of whatever closure
-/
import Derived.Test.YtolmiecbgkdlfaaDoorFifoCuint32
namespace Go.Proofs.YtolmiecbgkdlfaaDoor.Fuint32
open Go.RowKit

variable {w w' : World} {p rt rw : Nat} {q : List (El × Nat)} {v : Value} {first : Nat} {gone : List Value}

theorem which_some (w : World) (fn : Fn) (b c : Array Value) : (binOp BinOp.eql 41 (.func fn b c) .nilFunc).run Tryd.prog w = .ok (.bool false) w := by
  kernel_rfl
theorem ReadsK.at2 (h : ReadsK (sz + 1) w v q.length (flat q)) : ∃ a c, v = .slice a q.length c ∧ q.length ≤ c ∧ c ≤ maxLen ∧ ∀ j x, q[j]? = some x → ∃ g o, a = some ⟨g, o, none⟩ ∧ w.cell? ⟨g, o + j * 2, none⟩ = some (.int .u32 x.1) ∧ w.cell? ⟨g, o + j * 2 + 1, none⟩ = some (.int .i64 x.2) := by
  obtain ⟨_, a, c, he, h1, h2, _, hc⟩ := h
  refine ⟨a, c, he, h1, h2, fun j x hx => ?_⟩
  obtain ⟨g, o, ha, h3⟩ := hc (j * (sz + 1) + 0) (.int .u32 x.1) (by rw [flat_at q j x hx 0 (by decide)]; rfl)
  obtain ⟨g', o', ha', h4⟩ := hc (j * (sz + 1) + 1) (.int .i64 x.2) (by rw [flat_at q j x hx 1 (by decide)]; rfl)
  rw [ha] at ha'
  injection ha' with ha'
  injection ha' with e1 e2
  subst e1 e2
  exact ⟨g, o, ha, h3, h4⟩

theorem rest_take' (out : El × Nat → Bool) (l : List (El × Nat)) (k : Nat) (x : El × Nat) (h : l[k]? = some x) : (l.take (k + 1)).filter (fun x => !out x) = if out x then (l.take k).filter (fun x => !out x) else (l.take k).filter (fun x => !out x) ++ [x] := by
  rw [List.take_add_one, h]
  cases hb : out x <;> simp [hb]
theorem gone_take' (out : El × Nat → Bool) (l : List (El × Nat)) (k : Nat) (x : El × Nat) (h : l[k]? = some x) : (l.take (k + 1)).countP out = if out x then (l.take k).countP out + 1 else (l.take k).countP out := by
  rw [List.take_add_one, h]
  cases hb : out x <;> simp [hb]
theorem sum_filter (f : El × Nat → Bool) (l : List (El × Nat)) : sumW (l.filter f) ≤ sumW l := by
  induction l with
  | nil => exact Nat.le_refl _
  | cons x l ih =>
    rw [List.filter_cons, sumW_cons]
    split
    · rw [sumW_cons]; omega
    · omega
theorem filter_all (out : El × Nat → Bool) (l : List (El × Nat)) (h : l.countP out = 0) : l.filter (fun x => !out x) = l := by
  rw [List.countP_eq_zero] at h
  rw [List.filter_eq_self]
  intro x hx
  simpa using h x hx

end Go.Proofs.YtolmiecbgkdlfaaDoor.Fuint32
