/-
  Memory that a call's own objects hold: which blocks a call may change; rows of cells. Of whatever program.
-/
import Derived.Test.YtbinopfcelebbaaDoorMem
import Derived.Laws.CopyOwn
import Derived.Laws.MakeOwn
import Derived.Deep.WholeRow
import Derived.Deep.QuietTactic
namespace Go.Proofs.YtbinopfcelebbaaDoor
open Go.RowKit

/-- a fact that the walk neither opens nor tries -/
structure Aside (p : Prop) : Prop where
  it : p

/-- of the blocks of w all but those of S are in w' as they were -/
structure Keeps (S : Nat → Prop) (w w' : World) : Prop where
  os : w'.os = w.os
  tape : w'.tape = w.tape
  output : w'.output = w.output
  size : w.heap.size ≤ w'.heap.size
  block : ∀ k, k < w.heap.size → ¬ S k → w'.heap[k]? = w.heap[k]?

def Nowhere : Nat → Prop := fun _ => False

theorem Keeps.refl (S : Nat → Prop) (w : World) : Keeps S w w := ⟨rfl, rfl, rfl, Nat.le_refl _, fun _ _ _ => rfl⟩
theorem Keeps.next {S S' : Nat → Prop} {a b c : World} (h : Keeps S a b) (h' : Keeps S' b c) (hs : ∀ k, S' k → k < a.heap.size → S k) : Keeps S a c :=
  ⟨h'.os.trans h.os, h'.tape.trans h.tape, h'.output.trans h.output, Nat.le_trans h.size h'.size,
    fun k hk hn => (h'.block k (Nat.lt_of_lt_of_le hk h.size) (fun hs' => hn (hs k hs' hk))).trans (h.block k hk hn)⟩
theorem Keeps.mono {S S' : Nat → Prop} {a b : World} (h : Keeps S a b) (hs : ∀ k, S k → k < a.heap.size → S' k) : Keeps S' a b :=
  ⟨h.os, h.tape, h.output, h.size, fun k hk hn => h.block k hk (fun x => hn (hs k x hk))⟩
theorem Keeps.trans {S : Nat → Prop} {a b c : World} (h : Keeps S a b) (h' : Keeps S b c) : Keeps S a c := h.next h' (fun _ x _ => x)
theorem Keeps.any {S : Nat → Prop} {a b : World} (h : Keeps Nowhere a b) : Keeps S a b := h.mono (fun _ x _ => x.elim)
theorem Keeps.ofBelow {S : Nat → Prop} {a b : World} (h : Below a.heap.size a b) : Keeps S a b := ⟨h.os, h.tape, h.output, h.size, fun k hk _ => h.block k hk⟩
theorem Keeps.below {S : Nat → Prop} {a b : World} (h : Keeps S a b) {B : Nat} (hB : B ≤ a.heap.size) (hs : ∀ k, S k → B ≤ k) : Below B a b :=
  ⟨h.os, h.tape, h.output, h.size, fun k hk => h.block k (by omega) (fun x => by have := hs k x; omega)⟩
theorem Keeps.drew {S : Nat → Prop} {a b : World} (h : Keeps S a b) : Keeps S a b.drew := ⟨h.os, h.tape, h.output, h.size, h.block⟩
theorem Keeps.drewN {S : Nat → Prop} {a b : World} (h : Keeps S a b) (n : Nat) : Keeps S a (b.drewN n) := ⟨h.os, h.tape, h.output, h.size, h.block⟩
theorem Keeps.undrew {S : Nat → Prop} {a b : World} (h : Keeps S a.drew b) : Keeps S a b := ⟨h.os, h.tape, h.output, h.size, h.block⟩
theorem Keeps.undrewN {S : Nat → Prop} {a b : World} {n : Nat} (h : Keeps S (a.drewN n) b) : Keeps S a b := ⟨h.os, h.tape, h.output, h.size, h.block⟩
theorem Keeps.alloc {S : Nat → Prop} {a b : World} (h : Keeps S a b) (o : Obj) : Keeps S a (b.alloc o) :=
  h.next (S' := Nowhere) ⟨rfl, rfl, rfl, by simp, fun k hk _ => Below.heap_alloc b o k hk⟩ (fun _ x _ => x.elim)
theorem Keeps.setRow {S : Nat → Prop} {a b : World} (h : Keeps S a b) (g : Nat) (cs : Array Value) (hg : g < a.heap.size → S g) : Keeps S a (b.setRow g cs) :=
  h.next (S' := fun k => k = g) ⟨rfl, rfl, rfl, by simp [World.setRow], fun k _ hn => setRow_other b g k cs hn⟩ (fun k e hk => by subst e; exact hg hk)
theorem Keeps.setCell {S : Nat → Prop} {a b : World} (h : Keeps S a b) (p : Addr) (v : Value) (hg : p.block < a.heap.size → S p.block) : Keeps S a (b.setCell p v) :=
  h.next (S' := fun k => k = p.block) ⟨rfl, rfl, rfl, by simp [World.setCell], fun k _ hn => Below.heap_setCell b p v k hn⟩ (fun k e hk => by subst e; exact hg hk)

/-- a block holds these cells, none of them frozen -/
def Cells (w : World) (g : Nat) (e : TypeId) (xs : List Value) : Prop := w.heap[g]? = some (.cells xs.toArray e (0, 0))

theorem Cells.lt {w : World} {g : Nat} {e : TypeId} {xs : List Value} (h : Cells w g e xs) : g < w.heap.size := (Array.getElem?_eq_some_iff.1 h).1
theorem Cells.later {S : Nat → Prop} {w w' : World} {g : Nat} {e : TypeId} {xs : List Value} (h : Cells w g e xs) (hk : Keeps S w w') (hn : ¬ S g) : Cells w' g e xs :=
  (hk.block g h.lt hn).trans h
theorem Cells.cell {w : World} {g : Nat} {e : TypeId} {xs : List Value} (h : Cells w g e xs) (j : Nat) : w.cell? ⟨g, j, none⟩ = xs[j]? := by
  unfold Cells at h
  simp [World.cell?, h]
theorem Cells.frozen {w : World} {g : Nat} {e : TypeId} {xs : List Value} (h : Cells w g e xs) (j : Nat) : w.frozen? ⟨g, j, none⟩ = false := by
  unfold Cells at h
  simp [World.frozen?, h]
theorem Cells.set {w : World} {g : Nat} {e : TypeId} {xs : List Value} (h : Cells w g e xs) (ys : List Value) : Cells (w.setRow g ys.toArray) g e ys := setRow_heap w g _ _ e _ h
theorem Cells.setCell {w : World} {g : Nat} {e : TypeId} {xs : List Value} (h : Cells w g e xs) (j : Nat) (v : Value) : Cells (w.setCell ⟨g, j, none⟩ v) g e (xs.set j v) := by
  unfold Cells at h ⊢
  rw [setCell_eq_setRow w g j _ e _ v h, setRow_heap w g _ _ e _ h]
  simp
theorem Cells.setOther {w : World} {g : Nat} {e : TypeId} {xs : List Value} (h : Cells w g e xs) (p : Addr) (v : Value) (hn : g ≠ p.block) : Cells (w.setCell p v) g e xs :=
  (Below.heap_setCell w p v g hn).trans h
theorem Cells.drew {w : World} {g : Nat} {e : TypeId} {xs : List Value} (h : Cells w g e xs) : Cells w.drew g e xs := h
theorem Cells.drewN {w : World} {g : Nat} {e : TypeId} {xs : List Value} (h : Cells w g e xs) (n : Nat) : Cells (w.drewN n) g e xs := h
theorem Cells.new (w : World) (e : TypeId) (xs : List Value) : Cells (w.alloc (.cells xs.toArray e)) w.heap.size e xs := heap_alloc_new w _

/-- a slice whose whole block is its own, or nil -/
def RowAt (w : World) (e : TypeId) (v : Value) (xs : List Value) : Prop :=
  (v = .slice none 0 0 ∧ xs = []) ∨ ∃ g, v = .slice (some ⟨g, 0, none⟩) xs.length xs.length ∧ Cells w g e xs
theorem RowAt.later {S : Nat → Prop} {w w' : World} {e : TypeId} {v : Value} {xs : List Value} (h : RowAt w e v xs) (hk : Keeps S w w') (hn : ∀ k, v.ownBlock = some k → ¬ S k) : RowAt w' e v xs := by
  rcases h with h | ⟨g, rfl, hc⟩
  · exact .inl h
  · exact .inr ⟨g, rfl, hc.later hk (hn g rfl)⟩
theorem RowAt.lt {w : World} {e : TypeId} {v : Value} {xs : List Value} (h : RowAt w e v xs) : ∀ k, v.ownBlock = some k → k < w.heap.size := by
  rcases h with ⟨rfl, _⟩ | ⟨g, rfl, hc⟩
  · intro k hk; simp [Value.ownBlock] at hk
  · intro k hk
    simp [Value.ownBlock] at hk
    subst hk
    exact hc.lt

theorem add_block (x : Addr) (j : Nat) : (x.add j).block = x.block := by unfold Addr.add; split <;> rfl
theorem add_none (g o j : Nat) : (⟨g, o, none⟩ : Addr).add j = ⟨g, o + j, none⟩ := by unfold Addr.add; split <;> simp_all
theorem add_add (x : Addr) (n j : Nat) : (x.add n).add j = x.add (n + j) := by
  unfold Addr.add
  by_cases h : n = 0
  · subst h; simp
  · by_cases h' : j = 0
    · subst h'; simp [h]
    · simp [h, h', Nat.add_assoc]
/-- a slice's values, read only, none of them in a block of S -/
def ReadsOff (S : Nat → Prop) (w : World) (v : Value) (xs : List Value) : Prop :=
  ∃ a c, v = .slice a xs.length c ∧ xs.length ≤ c ∧ ∀ j u, xs[j]? = some u → ∃ x, a = some x ∧ ¬ S x.block ∧ w.cell? (x.add j) = some u
theorem RowAt.reads {S : Nat → Prop} {w : World} {e : TypeId} {v : Value} {xs : List Value} (h : RowAt w e v xs) (hs : ∀ k, v.ownBlock = some k → ¬ S k) : ReadsOff S w v xs := by
  rcases h with ⟨rfl, rfl⟩ | ⟨g, rfl, hc⟩
  · exact ⟨_, _, rfl, Nat.le_refl _, fun j u h => by simp at h⟩
  · refine ⟨_, _, rfl, Nat.le_refl _, fun j u h => ⟨_, rfl, hs g rfl, ?_⟩⟩
    have hadd : (⟨g, 0, none⟩ : Addr).add j = ⟨g, j, none⟩ := by unfold Addr.add; split <;> simp_all
    rw [hadd, hc.cell]; exact h
theorem ReadsOff.mono {S S' : Nat → Prop} {w : World} {v : Value} {xs : List Value} (h : ReadsOff S w v xs) (hs : ∀ k, S' k → k < w.heap.size → S k) : ReadsOff S' w v xs := by
  obtain ⟨a, c, rfl, hl, hc⟩ := h
  refine ⟨a, c, rfl, hl, fun j u hj => ?_⟩
  obtain ⟨x, hx, hn, hcell⟩ := hc j u hj
  exact ⟨x, hx, fun y => hn (hs _ y (by have := World.block_lt_of_cell? w _ hcell; rwa [add_block] at this)), hcell⟩
theorem ReadsOff.later {S : Nat → Prop} {w w' : World} {v : Value} {xs : List Value} (h : ReadsOff S w v xs) (hk : Keeps S w w') : ReadsOff (fun k => S k ∨ w.heap.size ≤ k) w' v xs := by
  obtain ⟨a, c, rfl, hl, hc⟩ := h
  refine ⟨a, c, rfl, hl, fun j u hj => ?_⟩
  obtain ⟨x, hx, hn, hcell⟩ := hc j u hj
  have hb := World.block_lt_of_cell? w _ hcell
  rw [add_block] at hb
  refine ⟨x, hx, ?_, ?_⟩
  · rintro (y | y)
    · exact hn y
    · omega
  · rw [World.cell?_of_block (w := w) (hk.block _ (by rw [add_block]; exact hb) (by rw [add_block]; exact hn))]; exact hcell
theorem ReadsOff.below {S : Nat → Prop} {w w' : World} {v : Value} {xs : List Value} (h : ReadsOff S w v xs) (hb : Below w.heap.size w w') : ReadsOff S w' v xs := by
  obtain ⟨a, c, rfl, hl, hc⟩ := h
  refine ⟨a, c, rfl, hl, fun j u hj => ?_⟩
  obtain ⟨x, hx, hn, hcell⟩ := hc j u hj
  exact ⟨x, hx, hn, by rw [hb.cell (World.block_lt_of_cell? w _ hcell)]; exact hcell⟩

/-- where the thing with i ahead of it lies in a room of n places -/
def pl (first n i : Nat) : Nat := if first + i < n then first + i else first + i - n

theorem splice_get {α : Type} (L : List α) (off : Nat) (cs : List α) (h : off ≤ L.length) (j : Nat) : (splice L off cs)[j]? = if j < off then L[j]? else if j < off + cs.length then cs[j - off]? else L[j]? := by
  unfold splice
  have ht : (L.take off).length = off := by simp; omega
  by_cases h1 : j < off
  · rw [if_pos h1, List.getElem?_append_left (by omega), List.getElem?_take, if_pos h1]
  · rw [if_neg h1, List.getElem?_append_right (by omega), ht]
    by_cases h2 : j < off + cs.length
    · rw [if_pos h2, List.getElem?_append_left (by omega)]
    · rw [if_neg h2, List.getElem?_append_right (by omega), List.getElem?_drop]
      congr 1
      omega
theorem splice_mem {α : Type} {L : List α} {off : Nat} {cs : List α} {x : α} (h : x ∈ splice L off cs) : x ∈ L ∨ x ∈ cs := by
  unfold splice at h
  simp only [List.mem_append] at h
  rcases h with h | h | h
  · exact .inl (List.mem_of_mem_take h)
  · exact .inr h
  · exact .inl (List.mem_of_mem_drop h)
end Go.Proofs.YtbinopfcelebbaaDoor
