/-
  package ring at int: rings by the owner of their memory
-/
import Derived.Test.YtkmijhfimkcoiaaDoorRingFint
import Derived.Test.YtkmijhfimkcoiaaDoorBase
namespace Go.Proofs.YtkmijhfimkcoiaaDoor.Rint
open Go.RowKit

/-- a ring whose blocks are i's -/
abbrev RingO (own : Nat → Nat) (i : Nat) (w : World) (x : Value) (cap : Nat) (items : List Value) : Prop := RingV (fun k => own k = i) w x cap items

variable {own : Nat → Nat} {i j : Nat} {w w' : World} {x : Value} {cap : Nat} {items : List Value}

theorem RingO.quiet (h : RingO own i w x cap items) (hk : Keeps Nowhere w w') : RingO own i w' x cap items :=
  (h.later hk (fun _ _ _ x => x)).mono (fun _ hk _ => hk.1)
theorem RingO.fresh (h : RingO own i w x cap items) (hk : Keeps Nowhere w w') (r : Nat) : RingO (give own w.heap.size r) i w' x cap items :=
  (h.later hk (fun _ _ _ x => x)).mono (fun _ hk _ => (give_old hk.2).trans hk.1)
theorem RingO.others (h : RingO own j w x cap items) (hk : Keeps (fun k => own k = i) w w') (hij : j ≠ i) (r : Nat) : RingO (give own w.heap.size r) j w' x cap items :=
  (h.later hk (fun _ e _ e' => hij (e.symm.trans e'))).mono (fun _ hk _ => (give_old hk.2).trans hk.1)
theorem RingO.mine {z : Nat} (h : RingV (Next (fun k => own k = i) w.heap.size z) w' x cap items) (r : Nat) (hz : w.heap.size ≤ z) : RingO (give (give own w.heap.size r) z i) i w' x cap items := by
  refine h.mono (fun k hk _ => ?_)
  rcases hk with ⟨a, b⟩ | b
  · rw [give_old (by omega), give_old b]; exact a
  · exact give_new b
theorem RingO.mine0 (h : RingV (Next (fun k => own k = i) w.heap.size w.heap.size) w' x cap items) : RingO (give own w.heap.size i) i w' x cap items := by
  refine h.mono (fun k hk _ => ?_)
  rcases hk with ⟨a, b⟩ | b
  · rw [give_old b]; exact a
  · exact give_new b
end Go.Proofs.YtkmijhfimkcoiaaDoor.Rint
