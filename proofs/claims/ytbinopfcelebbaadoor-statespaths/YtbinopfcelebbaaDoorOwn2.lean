/-
  More on a call's own memory. Of whatever program.
-/
import Derived.Test.YtbinopfcelebbaaDoorOwn
namespace Go.Proofs.YtbinopfcelebbaaDoor
open Go.RowKit

theorem Keeps.bel {a b : World} (h : Keeps Nowhere a b) : Below a.heap.size a b := h.below (Nat.le_refl _) (fun _ x => x.elim)
theorem row_new (w : World) (e : TypeId) (xs : List Value) : RowAt (w.alloc (.cells xs.toArray e)) e (.slice (some ⟨w.heap.size, 0, none⟩) xs.length xs.length) xs := .inr ⟨_, rfl, Cells.new w e xs⟩
theorem below_next {B : Nat} {S : Nat → Prop} {a b c : World} (h : Below B a b) (hk : Keeps S b c) (hB : B ≤ b.heap.size) (hs : ∀ k, S k → k < b.heap.size → B ≤ k) : Below B a c :=
  h.trans ⟨hk.os, hk.tape, hk.output, hk.size, fun k hlt => hk.block k (by omega) (fun x => by have := hs k x (by omega); omega)⟩
/-- []byte("..") of a constant: a new row with the run-time's mark behind it -/
theorem reads_mark (S : Nat → Prop) (w : World) (e : TypeId) (xs : List Value) (fr : Nat × Nat) (hs : ¬ S w.heap.size) : ReadsOff S (w.alloc (.cells xs.toArray e fr)) (.slice (some ⟨w.heap.size, 0, none⟩) xs.length xs.length) xs := by
  refine ⟨_, _, rfl, Nat.le_refl _, fun j u h => ⟨_, rfl, hs, ?_⟩⟩
  have hg : (w.alloc (.cells xs.toArray e fr)).heap[w.heap.size]? = some (.cells xs.toArray e fr) := heap_alloc_new w _
  have hadd : (⟨w.heap.size, 0, none⟩ : Addr).add j = ⟨w.heap.size, j, none⟩ := by unfold Addr.add; split <;> simp_all
  rw [hadd]
  unfold World.cell?
  rw [hg]
  simpa using h
end Go.Proofs.YtbinopfcelebbaaDoor
