/-
  Small laws on memory that a call makes. Of whatever program.
-/
import Derived.WalkKit
import Derived.Laws.CopyOwn
import Derived.Deep.WholeRow
namespace Go.Proofs.YtbinopfcelebbaaDoor
open Go.RowKit

theorem hide {p : Prop} (h : p) : Hid p := h

theorem heap_alloc (w : World) (o : Obj) : (w.alloc o).heap = w.heap.push o := rfl

/-- copy of a whole row that lies in the last block but one into a row of the last -/
theorem run_copy_new {P : Program} (w : World) (dT sT ty elem t1 t2 : TypeId) (xs zs : List Value) (n : Nat) (hn : xs.length = n) (hz : zs.length = n) (hu : P.underlying dT = some (.slice elem)) (hs : (P.info? elem).map (·.size) = some 1)
    (h1 : ∀ v ∈ xs, v.oneCell' = true) :
    (Builtin.copy_ #[dT, sT] ty #[.slice (some ⟨w.heap.size + 1, 0, none⟩) n n, .slice (some ⟨w.heap.size, 0, none⟩) n n]).run P ((w.alloc (.cells xs.toArray t1)).alloc (.cells zs.toArray t2)) =
      .ok (.int .i64 n) ((w.alloc (.cells xs.toArray t1)).alloc (.cells xs.toArray t2)) := by
  have hsz : (w.alloc (.cells xs.toArray t1)).heap.size = w.heap.size + 1 := by rw [heap_alloc, Array.size_push]
  have hg : ((w.alloc (.cells xs.toArray t1)).alloc (.cells zs.toArray t2)).heap[w.heap.size + 1]? = some (.cells zs.toArray t2 (0, 0)) := by
    rw [heap_alloc, Array.getElem?_push, hsz, if_pos rfl]
  have hsrc : ∀ j v, xs[j]? = some v → ((w.alloc (.cells xs.toArray t1)).alloc (.cells zs.toArray t2)).cell? ((⟨w.heap.size, 0, none⟩ : Addr).add j) = some v := by
    intro j v h
    have hadd : (⟨w.heap.size, 0, none⟩ : Addr).add j = ⟨w.heap.size, j, none⟩ := by unfold Addr.add; split <;> simp_all
    rw [hadd]
    unfold World.cell?
    rw [heap_alloc, heap_alloc]
    simp [Array.getElem?_push, h]
  have := run_copy_row P ((w.alloc (.cells xs.toArray t1)).alloc (.cells zs.toArray t2)) dT sT ty elem (w.heap.size + 1) 0 n n ⟨w.heap.size, 0, none⟩ n n zs.toArray t2 xs hu hs hg (by simp [hn]) hsrc (by simp [hn, hz]) h1
  rw [this]
  have e := World.setRow_alloc_new (w.alloc (.cells xs.toArray t1)) zs.toArray xs.toArray t2
  rw [hsz] at e
  have hd : List.drop (0 + xs.length) zs.toArray.toList = [] := List.drop_of_length_le (by simp [hn, hz])
  rw [hd]
  simp only [List.take_zero, List.nil_append, List.append_nil, e, goInt, hn]
end Go.Proofs.YtbinopfcelebbaaDoor
