/-
  tickets and slices of tickets: ==, culvertlaw11.Same
-/
import Derived.Test.YtnohcbdnhpaafaaDoorLnE
import Derived.LaidEql
namespace Go.Proofs.YtnohcbdnhpaafaaDoor
open Go.RowKit

variable {A : Nat → Addr} {w w' w0 : World}

set_option maxRecDepth 100000 in
theorem tk_eql (w : World) (k k2 : Int) (s s2 v v2 : Int) : (binOp .eql 29 (.agg #[.int .i64 k, .int .u32 s, .int .u32 v]) (.agg #[.int .i64 k2, .int .u32 s2, .int .u32 v2])).run Tryd.prog w = .ok (.bool (decide (k = k2 ∧ s = s2 ∧ v = v2))) w := by
  have hst : Tryd.prog.stoodInHeld 29 = false := by kernel_rfl
  have hfo : Tryd.prog.underlying 29 = some (.struct (Tryd.prog.fieldsOf 29)) := by kernel_rfl
  have h := run_equalIn_agg (P := Tryd.prog) (w := w) 9999 29 #[.int .i64 k, .int .u32 s, .int .u32 v] #[.int .i64 k2, .int .u32 s2, .int .u32 v2] hfo hst
  rw [run_eql_struct, h]
  clear h hst hfo
  simp only [Program.fieldsOf, Tryd.underlying29]
  by_cases e0 : k = k2
  · by_cases e1 : s = s2
    · by_cases e2 : v = v2
      · simp [Op.eqFields, go_sem, e0, e1, e2]
      · simp [Op.eqFields, go_sem, e0, e1, e2]
    · simp [Op.eqFields, go_sem, e0, e1]
  · simp [Op.eqFields, go_sem, e0]
set_option maxRecDepth 100000 in
theorem tk_neq (w : World) (k k2 : Int) (s s2 v v2 : Int) : (binOp .neq 29 (.agg #[.int .i64 k, .int .u32 s, .int .u32 v]) (.agg #[.int .i64 k2, .int .u32 s2, .int .u32 v2])).run Tryd.prog w = .ok (.bool (!decide (k = k2 ∧ s = s2 ∧ v = v2))) w := by
  have hst : Tryd.prog.stoodInHeld 29 = false := by kernel_rfl
  have hfo : Tryd.prog.underlying 29 = some (.struct (Tryd.prog.fieldsOf 29)) := by kernel_rfl
  have h := run_equalIn_agg (P := Tryd.prog) (w := w) 9999 29 #[.int .i64 k, .int .u32 s, .int .u32 v] #[.int .i64 k2, .int .u32 s2, .int .u32 v2] hfo hst
  rw [run_neq_struct, h]
  clear h hst hfo
  simp only [Program.fieldsOf, Tryd.underlying29]
  by_cases e0 : k = k2
  · by_cases e1 : s = s2
    · by_cases e2 : v = v2
      · simp [Op.eqFields, go_sem, e0, e1, e2]
      · simp [Op.eqFields, go_sem, e0, e1, e2]
    · simp [Op.eqFields, go_sem, e0, e1]
  · simp [Op.eqFields, go_sem, e0]

/-- a slice reads as these tickets -/
def RdT (w : World) (v : Value) (L : List Tk) : Prop := ReadsK 3 w v L.length (flatT L)
theorem flatT_at (L : List Tk) (j : Nat) (t : Tk) (h : L[j]? = some t) (c : Nat) (hc : c < 3) : (flatT L)[j * 3 + c]? = (tcells t)[c]? := by
  induction L generalizing j with
  | nil => simp at h
  | cons x L ih =>
    cases j with
    | zero =>
      simp only [List.getElem?_cons_zero, Option.some.injEq] at h
      subst h
      rw [Nat.zero_mul, Nat.zero_add]
      simp only [flatT, List.flatMap_cons]
      rw [List.getElem?_append_left (by simpa using hc)]
    | succ j =>
      rw [List.getElem?_cons_succ] at h
      have := ih j h
      simp only [flatT, List.flatMap_cons] at this ⊢
      rw [List.getElem?_append_right (by simp; omega), show (j + 1) * 3 + c - (tcells x).length = j * 3 + c by simp; omega]
      exact this
theorem RdT.at {v : Value} {L : List Tk} (h : RdT w v L) : ∃ a c, v = .slice a L.length c ∧ L.length ≤ c ∧ c ≤ maxLen ∧ ∀ j t, L[j]? = some t → ∃ g o, a = some ⟨g, o, none⟩ ∧ w.cell? ⟨g, o + j * 3, none⟩ = some (.int .i64 t.k) ∧ w.cell? ⟨g, o + j * 3 + 1, none⟩ = some (.int .u32 t.s) ∧ w.cell? ⟨g, o + j * 3 + 2, none⟩ = some (.int .u32 t.v) := by
  obtain ⟨_, a, c, he, h1, h2, _, hc⟩ := h
  refine ⟨a, c, he, h1, h2, fun j t hx => ?_⟩
  obtain ⟨g, o, ha, h3⟩ := hc (j * 3 + 0) (.int .i64 t.k) (by rw [flatT_at L j t hx 0 (by decide)]; rfl)
  obtain ⟨g', o', ha', h4⟩ := hc (j * 3 + 1) (.int .u32 t.s) (by rw [flatT_at L j t hx 1 (by decide)]; rfl)
  obtain ⟨g2, o2, ha2, h5⟩ := hc (j * 3 + 2) (.int .u32 t.v) (by rw [flatT_at L j t hx 2 (by decide)]; rfl)
  rw [ha] at ha' ha2
  injection ha' with ha'
  injection ha' with e1 e2
  injection ha2 with ha2
  injection ha2 with e3 e4
  subst e1 e2 e3 e4
  exact ⟨g, o, ha, h3, h4, h5⟩
theorem RdT.quiet {v : Value} {L : List Tk} (h : RdT w v L) (k : Keeps Nowhere w w') : RdT w' v L := ReadsK.later h k (fun _ _ x => x)

end Go.Proofs.YtnohcbdnhpaafaaDoor
