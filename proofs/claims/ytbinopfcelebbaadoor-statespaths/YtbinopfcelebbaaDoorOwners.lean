/-
  Who owns a block: each object's memory by its owner's number. Of whatever program.
-/
import Derived.Test.YtbinopfcelebbaaDoorOwn2
namespace Go.Proofs.YtbinopfcelebbaaDoor
open Go.RowKit

/-- the blocks from n on are i's, the others whose they were -/
def give (own : Nat → Nat) (n i : Nat) : Nat → Nat := fun k => if k < n then own k else i
theorem give_old {own : Nat → Nat} {n i k : Nat} (h : k < n) : give own n i k = own k := if_pos h
theorem give_new {own : Nat → Nat} {n i k : Nat} (h : n ≤ k) : give own n i k = i := if_neg (by omega)

variable {own : Nat → Nat} {i j : Nat} {w w' : World}

/-- a row that is i's -/
def RowO (own : Nat → Nat) (i : Nat) (w : World) (e : TypeId) (v : Value) (xs : List Value) : Prop := RowAt w e v xs ∧ ∀ k, v.ownBlock = some k → own k = i
theorem RowO.quiet {e : TypeId} {v : Value} {xs : List Value} (h : RowO own i w e v xs) (hk : Keeps Nowhere w w') : RowO own i w' e v xs := ⟨h.1.later hk (fun _ _ x => x), h.2⟩
theorem RowO.others {e : TypeId} {v : Value} {xs : List Value} (h : RowO own j w e v xs) (hk : Keeps (fun k => own k = i) w w') (hij : j ≠ i) (r : Nat) : RowO (give own w.heap.size r) j w' e v xs :=
  ⟨h.1.later hk (fun k e e' => hij ((h.2 k e).symm.trans e')), fun k e => (give_old (h.1.lt k e)).trans (h.2 k e)⟩
theorem RowO.reads {e : TypeId} {v : Value} {xs : List Value} (h : RowO own i w e v xs) : ReadsOff Nowhere w v xs := h.1.reads (fun _ _ x => x)
/-- a block of cells that is i's -/
def CellsO (own : Nat → Nat) (i : Nat) (w : World) (g : Nat) (e : TypeId) (xs : List Value) : Prop := Cells w g e xs ∧ own g = i
theorem CellsO.quiet {g : Nat} {e : TypeId} {xs : List Value} (h : CellsO own i w g e xs) (hk : Keeps Nowhere w w') : CellsO own i w' g e xs := ⟨h.1.later hk (fun x => x), h.2⟩
theorem CellsO.others {g : Nat} {e : TypeId} {xs : List Value} (h : CellsO own j w g e xs) (hk : Keeps (fun k => own k = i) w w') (hij : j ≠ i) (r : Nat) : CellsO (give own w.heap.size r) j w' g e xs :=
  ⟨h.1.later hk (fun e' => hij (h.2.symm.trans e')), (give_old h.1.lt).trans h.2⟩

/-- below B all is as it was, and nobody's -/
structure Ground (B : Nat) (w0 : World) (own : Nat → Nat) (w : World) : Prop where
  zero : ∀ k, k < B → own k = 0
  bel : Below B w0 w
  size : B ≤ w.heap.size
theorem Ground.quiet {B : Nat} {w0 : World} (h : Ground B w0 own w) (hk : Keeps Nowhere w w') : Ground B w0 own w' :=
  ⟨h.zero, below_next h.bel hk h.size (fun _ x _ => x.elim), Nat.le_trans h.size hk.size⟩
theorem Ground.step {B : Nat} {w0 : World} (h : Ground B w0 own w) (hk : Keeps (fun k => own k = i) w w') (hi : i ≠ 0) (r : Nat) : Ground B w0 (give own w.heap.size r) w' := by
  refine ⟨fun k hlt => (give_old (by have := h.size; omega)).trans (h.zero k hlt), below_next h.bel hk h.size (fun k e _ => ?_), Nat.le_trans h.size hk.size⟩
  rcases Nat.lt_or_ge k B with hlt | hge
  · have := h.zero k hlt; omega
  · exact hge
theorem Ground.give {B : Nat} {w0 : World} (h : Ground B w0 own w) (n r : Nat) (hn : B ≤ n) : Ground B w0 (give own n r) w :=
  ⟨fun k hlt => (give_old (by omega)).trans (h.zero k hlt), h.bel, h.size⟩
/-- what lies below B is read as ever -/
theorem Ground.reads {B : Nat} {w0 : World} {v : Value} {xs : List Value} (h : Ground B w0 own w) (hx : ReadsOff Nowhere w0 v xs) (hB : B = w0.heap.size) (hi : i ≠ 0) : ReadsOff (fun k => own k = i) w v xs := by
  subst hB
  obtain ⟨a, c, rfl, hl, hc⟩ := hx
  refine ⟨a, c, rfl, hl, fun j u hj => ?_⟩
  obtain ⟨x, hx, _, hcell⟩ := hc j u hj
  have hb := World.block_lt_of_cell? w0 _ hcell
  rw [add_block] at hb
  refine ⟨x, hx, fun e => ?_, ?_⟩
  · have := h.zero _ hb; omega
  · rw [h.bel.cell (by rw [add_block]; exact hb)]; exact hcell
theorem Ground.cell {B : Nat} {w0 : World} {p : Addr} {v : Value} (h : Ground B w0 own w) (hB : B = w0.heap.size) (hc : w0.cell? p = some v) : w.cell? p = some v := by
  subst hB
  rw [h.bel.cell (World.block_lt_of_cell? w0 _ hc)]; exact hc
end Go.Proofs.YtbinopfcelebbaaDoor
