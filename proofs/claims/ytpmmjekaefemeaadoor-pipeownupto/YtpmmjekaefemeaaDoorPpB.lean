/-
  package pipe: what a pipe is in memory
-/
import Derived.Test.YtpmmjekaefemeaaDoorPpA
namespace Go.Proofs.YtpmmjekaefemeaaDoor
open Go.RowKit

abbrev maxI : Nat := 9223372036854775807
abbrev El19 := (Nat × Nat × Nat) × Nat
/-- a piece's value -/
abbrev pv (x : Nat × Nat × Nat) : Value := .slice (some ⟨x.1, 0, none⟩) x.2.1 x.2.2

theorem Fbs.FifoO_sn {I : Nat → Prop} {own own' : Nat → Nat} {w w' : World} {i p rt rw : Nat} {q : List El19} (h : Fbs.FifoO own i w p rt rw q) (s : Sn I own w own' w') (hi : ¬ I i) : Fbs.FifoO own' i w' p rt rw q := by
  obtain ⟨v, f, g, h1, h2, h3, h4⟩ := h
  refine ⟨v, f, g, h1.later s.keeps ?_, h2, (s.agree p (h1.lt p (.inl rfl))).trans h3, fun k hk => (s.agree k (h1.lt k (.inr hk))).trans (h4 k hk)⟩
  rintro k (rfl | hk) e
  · rw [h3] at e; exact hi e
  · rw [h4 k hk] at e; exact hi e

section
variable {own own' : Nat → Nat} {w w' W : World} {rs : List (List Int)} {r r0 L : List Int} {I : Nat → Prop} {i d p qp gone ps : Nat} {q : List El19} {bg : Value}

/-- the pieces that wait -/
def Pcs (own : Nat → Nat) (d : Nat) (w : World) : List El19 → List (List Int) → Prop
  | [], [] => True
  | x :: q, r :: rs => (x.2 = r.length ∧ r ≠ [] ∧ RdO own d w (pv x.1) r) ∧ Pcs own d w q rs
  | _, _ => False
theorem Pcs.sn (h : Pcs own d w q rs) (s : Sn I own w own' w') (hd : ¬ I d) : Pcs own' d w' q rs := by
  induction q generalizing rs with
  | nil => cases rs <;> trivial
  | cons x q ih =>
    cases rs with
    | nil => exact h
    | cons r rs => exact ⟨⟨h.1.1, h.1.2.1, h.1.2.2.sn s hd⟩, ih h.2⟩
theorem Pcs.sum (h : Pcs own d w q rs) : Fbs.sumW q = rs.flatten.length ∧ q.length = rs.length ∧ q.length ≤ rs.flatten.length := by
  induction q generalizing rs with
  | nil => cases rs with
    | nil => exact ⟨rfl, rfl, Nat.le_refl _⟩
    | cons r rs => exact h.elim
  | cons x q ih =>
    cases rs with
    | nil => exact h.elim
    | cons r rs =>
      obtain ⟨a, b, c⟩ := ih h.2
      have := List.length_pos_iff.2 h.1.2.1
      refine ⟨?_, by simp [b], ?_⟩
      · rw [Fbs.sumW_cons, a, List.flatten_cons, List.length_append, h.1.1]
      · rw [List.flatten_cons, List.length_append, List.length_cons]; omega
theorem Pcs.snoc (h : Pcs own d w q rs) (x : Nat × Nat × Nat) (h1 : r ≠ []) (h2 : RdO own d w (pv x) r) : Pcs own d w (q ++ [(x, r.length)]) (rs ++ [r]) := by
  induction q generalizing rs with
  | nil => cases rs with
    | nil => exact ⟨⟨rfl, h1, h2⟩, trivial⟩
    | cons r rs => exact h.elim
  | cons x q ih =>
    cases rs with
    | nil => exact h.elim
    | cons r' rs => exact ⟨h.1, ih h.2⟩

/-- a pipe that isn't cut: its queue is i's, its box i+1's, its bytes i+2's; what is left of the piece that was begun, the pieces behind it -/
structure PpI (own : Nat → Nat) (i : Nat) (w : World) (p qp : Nat) (q : List El19) (bg : Value) (r0 : List Int) (rs : List (List Int)) (gone ps : Nat) : Prop where
  box : CellsO own (i + 1) w p 60 [bg, .int .i64 gone, ptr qp, .int .u64 ps, .bool false]
  fifo : Fbs.FifoO own i w qp maxI maxI q
  bg : RdO own (i + 2) w bg r0
  pcs : Pcs own (i + 2) w q rs
  gl : gone ≤ r0.length
  p64 : ps < 18446744073709551616
/-- a pipe: the bytes under way, how many passed -/
def PpL (own : Nat → Nat) (i : Nat) (w : World) (p : Nat) (L : List Int) (ps : Nat) : Prop := ∃ qp q bg r0 rs gone, PpI own i w p qp q bg r0 rs gone ps ∧ L = r0 ++ rs.flatten
/-- one that was cut -/
def PpC (own : Nat → Nat) (i : Nat) (w : World) (p : Nat) (ps : Nat) : Prop := CellsO own (i + 1) w p 60 [.slice none 0 0, .int .i64 0, .pointer none, .int .u64 ps, .bool true] ∧ ps < 18446744073709551616
def PpO (own : Nat → Nat) (i : Nat) (w : World) (p : Nat) (L : List Int) (ps : Nat) (cut : Bool) : Prop := (cut = true ∧ L = [] ∧ PpC own i w p ps) ∨ (cut = false ∧ PpL own i w p L ps)

theorem PpI.sn (h : PpI own i w p qp q bg r0 rs gone ps) (s : Sn I own w own' w') (h0 : ¬ I i) (h1 : ¬ I (i + 1)) (h2 : ¬ I (i + 2)) : PpI own' i w' p qp q bg r0 rs gone ps :=
  ⟨h.box.sn s h1, Fbs.FifoO_sn h.fifo s h0, h.bg.sn s h2, h.pcs.sn s h2, h.gl, h.p64⟩
theorem PpL.sn (h : PpL own i w p L ps) (s : Sn I own w own' w') (h0 : ¬ I i) (h1 : ¬ I (i + 1)) (h2 : ¬ I (i + 2)) : PpL own' i w' p L ps := by
  obtain ⟨qp, q, bg, r0, rs, gone, h, e⟩ := h
  exact ⟨qp, q, bg, r0, rs, gone, h.sn s h0 h1 h2, e⟩
theorem PpO.sn {cut : Bool} (h : PpO own i w p L ps cut) (s : Sn I own w own' w') (h0 : ¬ I i) (h1 : ¬ I (i + 1)) (h2 : ¬ I (i + 2)) : PpO own' i w' p L ps cut := by
  rcases h with ⟨a, b, c⟩ | ⟨a, b⟩
  · exact .inl ⟨a, b, c.1.sn s h1, c.2⟩
  · exact .inr ⟨a, b.sn s h0 h1 h2⟩
theorem PpI.quiet (h : PpI own i w p qp q bg r0 rs gone ps) (hk : Keeps Nowhere w w') : PpI own i w' p qp q bg r0 rs gone ps := h.sn (I := fun _ => False) (Sn.same hk) (fun x => x) (fun x => x) (fun x => x)
theorem PpL.quiet (h : PpL own i w p L ps) (hk : Keeps Nowhere w w') : PpL own i w' p L ps := h.sn (I := fun _ => False) (Sn.same hk) (fun x => x) (fun x => x) (fun x => x)
theorem PpO.quiet {cut : Bool} (h : PpO own i w p L ps cut) (hk : Keeps Nowhere w w') : PpO own i w' p L ps cut := h.sn (I := fun _ => False) (Sn.same hk) (fun x => x) (fun x => x) (fun x => x)
theorem PpO.step {cut : Bool} (h : PpO own i w p L ps cut) (hk : Keeps Nowhere w w') (r : Nat) : PpO (give own w.heap.size r) i w' p L ps cut := h.sn (I := fun _ => False) (Sn.quiet hk r) (fun x => x) (fun x => x) (fun x => x)
theorem PpO.p64 {cut : Bool} (h : PpO own i w p L ps cut) : ps < 18446744073709551616 := by
  rcases h with ⟨_, _, c⟩ | ⟨_, qp, q, bg, r0, rs, gone, h, _⟩
  · exact c.2
  · exact h.p64
theorem PpI.cells (h : PpI own i w p qp q bg r0 rs gone ps) : w.cell? ⟨p, 0, none⟩ = some bg ∧ w.cell? ⟨p, 1, none⟩ = some (.int .i64 gone) ∧ w.cell? ⟨p, 2, none⟩ = some (ptr qp) ∧ w.cell? ⟨p, 3, none⟩ = some (.int .u64 ps) ∧ w.cell? ⟨p, 4, none⟩ = some (.bool false) ∧ w.frozen? ⟨p, 0, none⟩ = false ∧ w.frozen? ⟨p, 1, none⟩ = false ∧ w.frozen? ⟨p, 2, none⟩ = false ∧ w.frozen? ⟨p, 3, none⟩ = false ∧ w.frozen? ⟨p, 4, none⟩ = false :=
  ⟨by rw [h.box.1.cell]; rfl, by rw [h.box.1.cell]; rfl, by rw [h.box.1.cell]; rfl, by rw [h.box.1.cell]; rfl, by rw [h.box.1.cell]; rfl, h.box.1.frozen 0, h.box.1.frozen 1, h.box.1.frozen 2, h.box.1.frozen 3, h.box.1.frozen 4⟩
theorem PpC.cells (h : PpC own i w p ps) : w.cell? ⟨p, 0, none⟩ = some (.slice none 0 0) ∧ w.cell? ⟨p, 1, none⟩ = some (.int .i64 0) ∧ w.cell? ⟨p, 2, none⟩ = some (.pointer none) ∧ w.cell? ⟨p, 3, none⟩ = some (.int .u64 ps) ∧ w.cell? ⟨p, 4, none⟩ = some (.bool true) ∧ w.frozen? ⟨p, 0, none⟩ = false ∧ w.frozen? ⟨p, 1, none⟩ = false ∧ w.frozen? ⟨p, 2, none⟩ = false ∧ w.frozen? ⟨p, 3, none⟩ = false ∧ w.frozen? ⟨p, 4, none⟩ = false :=
  ⟨by rw [h.1.1.cell]; rfl, by rw [h.1.1.cell]; rfl, by rw [h.1.1.cell]; rfl, by rw [h.1.1.cell]; rfl, by rw [h.1.1.cell]; rfl, h.1.1.frozen 0, h.1.1.frozen 1, h.1.1.frozen 2, h.1.1.frozen 3, h.1.1.frozen 4⟩
theorem PpI.sum (h : PpI own i w p qp q bg r0 rs gone ps) : Fbs.sumW q = rs.flatten.length ∧ q.length ≤ rs.flatten.length := ⟨h.pcs.sum.1, h.pcs.sum.2.2⟩
end
end Go.Proofs.YtpmmjekaefemeaaDoor
