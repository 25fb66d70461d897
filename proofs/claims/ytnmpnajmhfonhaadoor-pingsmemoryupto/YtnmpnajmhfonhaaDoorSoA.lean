/-
  slices.Sort of numbers of 32 bits: the row in memory, and what one swap makes of it
-/
import Derived.Test.YtnmpnajmhfonhaaDoorProg
import Derived.Test.YtnmpnajmhfonhaaDoorBase
import Derived.Test.YtnmpnajmhfonhaaDoorSnA
import Derived.Sort.LotA
import Derived.Sort.LotB
import Derived.Sort.LotC
import Derived.Sort.LotD3
import Derived.Sort.Row
namespace Go.Proofs.YtnmpnajmhfonhaaDoor
open Go.RowKit Go.Sort

abbrev e32 (k : Nat) : Value := .int .u32 k
def ltN (x y : Nat) : Bool := decide (x < y)
theorem swo_ltN : SWO ltN := ⟨fun x => by simp [ltN], fun x y z h1 h2 => by simp [ltN] at *; omega, fun x y z h1 h2 => by simp [ltN] at *; omega⟩

/-- the row that the sort works on (off is 0: a letter, so that the walk keeps the cells' form) -/
def Ro (w : World) (g off cap : Nat) (d : Array Nat) : Prop := off = 0 ∧ w.ownsRow 0 37 1 (.slice (some ⟨g, 0, none⟩) d.size cap) d.size (d.toList.map e32)
/-- the row has become d; only its block has changed -/
structure So (w : World) (g off cap : Nat) (d : Array Nat) (w' : World) : Prop where
  r : Ro w' g off cap d
  k : Keeps (fun x => x = g) w w'

variable {w w' W : World} {g off cap : Nat} {d d' : Array Nat}

theorem get_map (d : Array Nat) (t : Nat) (ht : t < d.size) : (d.toList.map e32)[t]? = some (e32 d[t]!) := by
  rw [List.getElem?_map, Array.getElem?_toList, Array.getElem?_eq_getElem ht]
  simp [ht]
theorem Ro.cell (h : Ro w g off cap d) (t : Nat) (ht : t < d.size) : w.cell? ⟨g, off + t, none⟩ = some (e32 d[t]!) := by
  obtain ⟨rfl, h⟩ := h
  have := World.ownsRow.cells h rfl t _ (get_map d t ht)
  rwa [add_none] at this
theorem Ro.frozen (h : Ro w g off cap d) (t : Nat) : w.frozen? ⟨g, off + t, none⟩ = false := owns_frozen h.2 _
theorem Ro.later {S : Nat → Prop} (h : Ro w g off cap d) (hk : Keeps S w w') (hn : ¬ S g) : Ro w' g off cap d := ⟨h.1, owns_later h.2 hk (fun b e => by cases e; exact hn)⟩
theorem Ro.lt (h : Ro w g off cap d) : g < w.heap.size := owns_lt h.2 g rfl
theorem Ro.le (h : Ro w g off cap d) : d.size ≤ cap := by
  rcases h.2.2 with ⟨h, _⟩ | ⟨g', cap', cur, h, _, _, h1, h2, h3, h4⟩
  · cases h
  · cases h; exact h1
theorem map_set (d : Array Nat) (i x : Nat) : (d.toList.map e32).set i (e32 x) = (d.setIfInBounds i x).toList.map e32 := by
  rw [Array.toList_setIfInBounds, List.map_set]
theorem Ro.set (h : Ro w g off cap d) (i : Nat) (hi : i < d.size) (x : Nat) : Ro (w.setCell ⟨g, off + i, none⟩ (e32 x)) g off cap (d.setIfInBounds i x) := by
  obtain ⟨rfl, h⟩ := h
  have := owns_setCell h i (by omega) (e32 x)
  rw [map_set] at this
  refine ⟨rfl, ?_⟩
  rw [Array.size_setIfInBounds, Nat.zero_add]
  exact this
theorem Ro.swap (h : Ro w g off cap d) (i j : Nat) (hi : i < d.size) (hj : j < d.size) : Ro ((w.setCell ⟨g, off + i, none⟩ (e32 d[j]!)).setCell ⟨g, off + j, none⟩ (e32 d[i]!)) g off cap (swp d i j) :=
  (h.set i hi _).set j (by rw [Array.size_setIfInBounds]; exact hj) _

theorem So.refl (h : Ro w g off cap d) : So w g off cap d w := ⟨h, Keeps.refl _ _⟩
theorem So.trans (h : So w g off cap d W) (h' : So W g off cap d' w') : So w g off cap d' w' := ⟨h'.r, h.k.trans h'.k⟩
theorem So.drewN (h : So w g off cap d w') (n : Nat) : So w g off cap d (w'.drewN n) := ⟨h.r.later (S := Nowhere) ((Keeps.refl _ _).drewN n) (fun x => x), h.k.drewN n⟩
theorem So.drew (h : So w g off cap d w') : So w g off cap d w'.drew := ⟨h.r.later (S := Nowhere) ((Keeps.refl _ _).drew) (fun x => x), h.k.drew⟩
theorem So.alloc (h : So w g off cap d w') (o : Obj) : So w g off cap d (w'.alloc o) := ⟨h.r.later (S := Nowhere) ((Keeps.refl _ _).alloc o) (fun x => x), h.k.alloc o⟩
theorem So.swap (h : So w g off cap d w') (i j : Nat) (hi : i < d.size) (hj : j < d.size) : So w g off cap (swp d i j) ((w'.setCell ⟨g, off + i, none⟩ (e32 d[j]!)).setCell ⟨g, off + j, none⟩ (e32 d[i]!)) :=
  ⟨h.r.swap i j hi hj, (h.k.setCell _ _ (fun _ => rfl)).setCell _ _ (fun _ => rfl)⟩
/-- something else has changed, that is not of w -/
theorem So.other {S : Nat → Prop} (h : So w g off cap d W) (hk : Keeps S W w') (hg : ¬ S g) (hs : ∀ k, S k → w.heap.size ≤ k) : So w g off cap d w' :=
  ⟨h.r.later hk hg, h.k.next hk (fun k e hlt => by have := hs k e; omega)⟩

/-- the row's cells under a name of its own -/
theorem Ro.names (h : Ro w g off cap d) {N : Nat} (hN : d.size = N) : ∃ G : Nat → Nat, Aside (∀ t, G t = d[t]!) ∧ (∀ t, t < N → w.cell? ⟨g, off + t, none⟩ = some (.int .u32 (G t : Nat))) ∧ (∀ t, t < N → w.frozen? ⟨g, off + t, none⟩ = false) :=
  ⟨fun t => d[t]!, ⟨fun _ => rfl⟩, fun t ht => h.cell t (by omega), fun t _ => h.frozen t⟩
end Go.Proofs.YtnmpnajmhfonhaaDoor
