/-
  package pipe: lists of bytes one behind the other (join); what a pipe is in memory
-/
import Derived.Test.YtpmmjekaefemeaaDoorMkB
import Derived.Test.YtpmmjekaefemeaaDoorOwnL
import Derived.Test.YtpmmjekaefemeaaDoorQueObs
import Derived.Test.YtpmmjekaefemeaaDoorSn
import Derived.Deep.DeepCutAuto
import Derived.Laws.ResultCell
import Derived.Handy
namespace Go.Proofs.YtpmmjekaefemeaaDoor
open Go.RowKit

def natOf : Value → Nat
  | .int _ q => q.toNat
  | _ => 0
section
variable {own own' : Nat → Nat} {w w' W : World} {fv : Value} {rs : List (List Int)} {r : List Int} {I : Nat → Prop} {i p : Nat}

/-- a [][]byte that is read -/
def RdJ (w : World) (fv : Value) (rs : List (List Int)) : Prop := ∃ a c, fv = .slice a rs.length c ∧ rs.length ≤ c ∧ ∀ (k : Nat) (r : List Int), rs[k]? = some r → ∃ g o v, a = some ⟨g, o, none⟩ ∧ w.cell? ⟨g, o + k, none⟩ = some v ∧ Rd w v r
theorem RdJ.quiet (h : RdJ w fv rs) (hk : Keeps Nowhere w w') : RdJ w' fv rs := by
  obtain ⟨a, c, e, h1, h2⟩ := h
  refine ⟨a, c, e, h1, fun k r hr => ?_⟩
  obtain ⟨g, o, v, h3, h4, h5⟩ := h2 k r hr
  exact ⟨g, o, v, h3, by rw [World.cell?_of_block (w := w) (hk.block g (World.block_lt_of_cell? w _ h4) (fun x => x))]; exact h4, h5.keep hk (fun _ _ x => x)⟩
theorem RdL.rdj {d : Nat} (h : RdL own d w fv rs) : RdJ w fv rs := by
  obtain ⟨a, c, e, h1, h2⟩ := h.at
  refine ⟨a, c, e, h1, fun k r hr => ?_⟩
  obtain ⟨g, o, v, h3, h4, h5⟩ := h2 k r hr
  exact ⟨g, o, v, h3, h4, h5.1⟩
theorem RowL.rdj {d d2 : Nat} (h : RowL own d d2 w fv rs) : RdJ w fv rs := by
  obtain ⟨vs, h1, h2, h3, _⟩ := h
  obtain ⟨r1, r2⟩ := owns_reads h1
  obtain ⟨a, c, rfl, hl, hc⟩ := r1
  rw [h3.len] at hl ⊢
  refine ⟨a, c, rfl, hl, fun k r hk => ?_⟩
  obtain ⟨v, hv, hr⟩ := h3.at k hk
  obtain ⟨x, rfl, _, hce⟩ := hc k v hv
  have hs : x.spot = none := by
    cases vs with
    | nil => simp at hv
    | cons u us =>
      obtain ⟨y, hy, _, hy2⟩ := hc 0 u rfl
      cases hy
      exact cell_spot hy2
  obtain ⟨g, o, sp⟩ := x
  simp only at hs
  subst hs
  rw [add_none] at hce
  exact ⟨g, o, v, rfl, hce, hr.1⟩
/-- one list, in a new box -/
theorem RdJ.one {v : Value} (h : Rd w v r) : RdJ (w.alloc (.cells #[v] 26)) (.slice (some ⟨w.heap.size, 0, none⟩) 1 1) [r] := by
  refine ⟨_, _, rfl, Nat.le_refl _, fun k r' hk => ?_⟩
  cases k with
  | zero =>
    simp only [List.getElem?_cons_zero, Option.some.injEq] at hk
    subst hk
    exact ⟨_, _, v, rfl, by have := (Cells.new w 26 [v]).cell 0; exact this, h.keep ((Keeps.refl Nowhere _).alloc _) (fun _ _ x => x)⟩
  | succ k => simp at hk
theorem flat_take (rs : List (List Int)) (k : Nat) (r : List Int) (h : rs[k]? = some r) : (rs.take (k + 1)).flatten = (rs.take k).flatten ++ r := by
  rw [List.take_add_one, h]
  simp
theorem flat_take_le (rs : List (List Int)) (k : Nat) : (rs.take k).flatten.length ≤ rs.flatten.length := by
  have := congrArg (fun l : List (List Int) => l.flatten.length) (List.take_append_drop k rs)
  simp only [List.flatten_append, List.length_append] at this
  omega
end
end Go.Proofs.YtpmmjekaefemeaaDoor
