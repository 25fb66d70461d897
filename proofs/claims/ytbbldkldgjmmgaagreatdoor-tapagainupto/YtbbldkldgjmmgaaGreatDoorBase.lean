import Derived.WalkKit
import Derived.Laws.CopyOwn
import Derived.Deep.WholeRow
import Derived.Laws.MakeOwn
import Derived.Deep.QuietTactic
import Derived.Lib.SliceRun
import Derived.Laws.AppendOwnNone
import Derived.OwnWalk
/-
  Small laws on memory that a call makes. Of whatever program.
-/
namespace Go.Proofs.YtbbldkldgjmmgaaGreatDoor
open Go.RowKit

theorem hide {p : Prop} (h : p) : Hid p := h

theorem heap_alloc (w : World) (o : Obj) : (w.alloc o).heap = w.heap.push o := rfl

/-- copy of a whole row that lies in the last block but one into a row of the last -/
theorem run_copy_new {P : Program} (w : World) (dT sT ty elem t1 t2 : TypeId) (xs zs : List Value) (n : Nat) (hn : xs.length = n) (hz : zs.length = n) (hu : P.underlying dT = some (.slice elem)) (hs : (P.info? elem).map (·.size) = some 1)
    (h1 : ∀ v ∈ xs, v.oneCell' = true) :
    (Builtin.copy_ #[dT, sT] ty #[.slice (some ⟨w.heap.size + 1, 0, none⟩) n n, .slice (some ⟨w.heap.size, 0, none⟩) n n]).run P ((w.alloc (.cells xs.toArray t1)).alloc (.cells zs.toArray t2)) =
      .ok (.int .i64 n) ((w.alloc (.cells xs.toArray t1)).alloc (.cells xs.toArray t2)) := by
  have hsz : (w.alloc (.cells xs.toArray t1)).heap.size = w.heap.size + 1 := by rw [heap_alloc, Array.size_push]
  have hg : ((w.alloc (.cells xs.toArray t1)).alloc (.cells zs.toArray t2)).heap[w.heap.size + 1]? = some (.cells zs.toArray t2 (0, 0)) := by
    rw [heap_alloc, Array.getElem?_push, hsz, if_pos rfl]
  have hsrc : ∀ j v, xs[j]? = some v → ((w.alloc (.cells xs.toArray t1)).alloc (.cells zs.toArray t2)).cell? ((⟨w.heap.size, 0, none⟩ : Addr).add j) = some v := by
    intro j v h
    have hadd : (⟨w.heap.size, 0, none⟩ : Addr).add j = ⟨w.heap.size, j, none⟩ := by unfold Addr.add; split <;> simp_all
    rw [hadd]
    unfold World.cell?
    rw [heap_alloc, heap_alloc]
    simp [Array.getElem?_push, h]
  have := run_copy_row P ((w.alloc (.cells xs.toArray t1)).alloc (.cells zs.toArray t2)) dT sT ty elem (w.heap.size + 1) 0 n n ⟨w.heap.size, 0, none⟩ n n zs.toArray t2 xs hu hs hg (by simp [hn]) hsrc (by simp [hn, hz]) h1
  rw [this]
  have e := World.setRow_alloc_new (w.alloc (.cells xs.toArray t1)) zs.toArray xs.toArray t2
  rw [hsz] at e
  have hd : List.drop (0 + xs.length) zs.toArray.toList = [] := List.drop_of_length_le (by simp [hn, hz])
  rw [hd]
  simp only [List.take_zero, List.nil_append, List.append_nil, e, goInt, hn]
end Go.Proofs.YtbbldkldgjmmgaaGreatDoor

/-
  Memory that a call's own objects hold: which blocks a call may change; rows of cells. Of whatever program.
-/
namespace Go.Proofs.YtbbldkldgjmmgaaGreatDoor
open Go.RowKit

/-- a fact that the walk neither opens nor tries -/
structure Aside (p : Prop) : Prop where
  it : p

/-- of the blocks of w all but those of S are in w' as they were -/
structure Keeps (S : Nat → Prop) (w w' : World) : Prop where
  os : w'.os = w.os
  tape : w'.tape = w.tape
  output : w'.output = w.output
  size : w.heap.size ≤ w'.heap.size
  block : ∀ k, k < w.heap.size → ¬ S k → w'.heap[k]? = w.heap[k]?

def Nowhere : Nat → Prop := fun _ => False

theorem Keeps.refl (S : Nat → Prop) (w : World) : Keeps S w w := ⟨rfl, rfl, rfl, Nat.le_refl _, fun _ _ _ => rfl⟩
theorem Keeps.next {S S' : Nat → Prop} {a b c : World} (h : Keeps S a b) (h' : Keeps S' b c) (hs : ∀ k, S' k → k < a.heap.size → S k) : Keeps S a c :=
  ⟨h'.os.trans h.os, h'.tape.trans h.tape, h'.output.trans h.output, Nat.le_trans h.size h'.size,
    fun k hk hn => (h'.block k (Nat.lt_of_lt_of_le hk h.size) (fun hs' => hn (hs k hs' hk))).trans (h.block k hk hn)⟩
theorem Keeps.mono {S S' : Nat → Prop} {a b : World} (h : Keeps S a b) (hs : ∀ k, S k → k < a.heap.size → S' k) : Keeps S' a b :=
  ⟨h.os, h.tape, h.output, h.size, fun k hk hn => h.block k hk (fun x => hn (hs k x hk))⟩
theorem Keeps.trans {S : Nat → Prop} {a b c : World} (h : Keeps S a b) (h' : Keeps S b c) : Keeps S a c := h.next h' (fun _ x _ => x)
theorem Keeps.any {S : Nat → Prop} {a b : World} (h : Keeps Nowhere a b) : Keeps S a b := h.mono (fun _ x _ => x.elim)
theorem Keeps.ofBelow {S : Nat → Prop} {a b : World} (h : Below a.heap.size a b) : Keeps S a b := ⟨h.os, h.tape, h.output, h.size, fun k hk _ => h.block k hk⟩
theorem Keeps.below {S : Nat → Prop} {a b : World} (h : Keeps S a b) {B : Nat} (hB : B ≤ a.heap.size) (hs : ∀ k, S k → B ≤ k) : Below B a b :=
  ⟨h.os, h.tape, h.output, h.size, fun k hk => h.block k (by omega) (fun x => by have := hs k x; omega)⟩
theorem Keeps.drew {S : Nat → Prop} {a b : World} (h : Keeps S a b) : Keeps S a b.drew := ⟨h.os, h.tape, h.output, h.size, h.block⟩
theorem Keeps.drewN {S : Nat → Prop} {a b : World} (h : Keeps S a b) (n : Nat) : Keeps S a (b.drewN n) := ⟨h.os, h.tape, h.output, h.size, h.block⟩
theorem Keeps.undrew {S : Nat → Prop} {a b : World} (h : Keeps S a.drew b) : Keeps S a b := ⟨h.os, h.tape, h.output, h.size, h.block⟩
theorem Keeps.undrewN {S : Nat → Prop} {a b : World} {n : Nat} (h : Keeps S (a.drewN n) b) : Keeps S a b := ⟨h.os, h.tape, h.output, h.size, h.block⟩
theorem Keeps.alloc {S : Nat → Prop} {a b : World} (h : Keeps S a b) (o : Obj) : Keeps S a (b.alloc o) :=
  h.next (S' := Nowhere) ⟨rfl, rfl, rfl, by simp, fun k hk _ => Below.heap_alloc b o k hk⟩ (fun _ x _ => x.elim)
theorem Keeps.setRow {S : Nat → Prop} {a b : World} (h : Keeps S a b) (g : Nat) (cs : Array Value) (hg : g < a.heap.size → S g) : Keeps S a (b.setRow g cs) :=
  h.next (S' := fun k => k = g) ⟨rfl, rfl, rfl, by simp [World.setRow], fun k _ hn => setRow_other b g k cs hn⟩ (fun k e hk => by subst e; exact hg hk)
theorem Keeps.setCell {S : Nat → Prop} {a b : World} (h : Keeps S a b) (p : Addr) (v : Value) (hg : p.block < a.heap.size → S p.block) : Keeps S a (b.setCell p v) :=
  h.next (S' := fun k => k = p.block) ⟨rfl, rfl, rfl, by simp [World.setCell], fun k _ hn => Below.heap_setCell b p v k hn⟩ (fun k e hk => by subst e; exact hg hk)

/-- a block holds these cells, none of them frozen -/
def Cells (w : World) (g : Nat) (e : TypeId) (xs : List Value) : Prop := w.heap[g]? = some (.cells xs.toArray e (0, 0))

theorem Cells.lt {w : World} {g : Nat} {e : TypeId} {xs : List Value} (h : Cells w g e xs) : g < w.heap.size := (Array.getElem?_eq_some_iff.1 h).1
theorem Cells.later {S : Nat → Prop} {w w' : World} {g : Nat} {e : TypeId} {xs : List Value} (h : Cells w g e xs) (hk : Keeps S w w') (hn : ¬ S g) : Cells w' g e xs :=
  (hk.block g h.lt hn).trans h
theorem Cells.cell {w : World} {g : Nat} {e : TypeId} {xs : List Value} (h : Cells w g e xs) (j : Nat) : w.cell? ⟨g, j, none⟩ = xs[j]? := by
  unfold Cells at h
  simp [World.cell?, h]
theorem Cells.frozen {w : World} {g : Nat} {e : TypeId} {xs : List Value} (h : Cells w g e xs) (j : Nat) : w.frozen? ⟨g, j, none⟩ = false := by
  unfold Cells at h
  simp [World.frozen?, h]
theorem Cells.set {w : World} {g : Nat} {e : TypeId} {xs : List Value} (h : Cells w g e xs) (ys : List Value) : Cells (w.setRow g ys.toArray) g e ys := setRow_heap w g _ _ e _ h
theorem Cells.setCell {w : World} {g : Nat} {e : TypeId} {xs : List Value} (h : Cells w g e xs) (j : Nat) (v : Value) : Cells (w.setCell ⟨g, j, none⟩ v) g e (xs.set j v) := by
  unfold Cells at h ⊢
  rw [setCell_eq_setRow w g j _ e _ v h, setRow_heap w g _ _ e _ h]
  simp
theorem Cells.setOther {w : World} {g : Nat} {e : TypeId} {xs : List Value} (h : Cells w g e xs) (p : Addr) (v : Value) (hn : g ≠ p.block) : Cells (w.setCell p v) g e xs :=
  (Below.heap_setCell w p v g hn).trans h
theorem Cells.drew {w : World} {g : Nat} {e : TypeId} {xs : List Value} (h : Cells w g e xs) : Cells w.drew g e xs := h
theorem Cells.drewN {w : World} {g : Nat} {e : TypeId} {xs : List Value} (h : Cells w g e xs) (n : Nat) : Cells (w.drewN n) g e xs := h
theorem Cells.new (w : World) (e : TypeId) (xs : List Value) : Cells (w.alloc (.cells xs.toArray e)) w.heap.size e xs := heap_alloc_new w _

/-- a slice whose whole block is its own, or nil -/
def RowAt (w : World) (e : TypeId) (v : Value) (xs : List Value) : Prop :=
  (v = .slice none 0 0 ∧ xs = []) ∨ ∃ g, v = .slice (some ⟨g, 0, none⟩) xs.length xs.length ∧ Cells w g e xs
theorem RowAt.later {S : Nat → Prop} {w w' : World} {e : TypeId} {v : Value} {xs : List Value} (h : RowAt w e v xs) (hk : Keeps S w w') (hn : ∀ k, v.ownBlock = some k → ¬ S k) : RowAt w' e v xs := by
  rcases h with h | ⟨g, rfl, hc⟩
  · exact .inl h
  · exact .inr ⟨g, rfl, hc.later hk (hn g rfl)⟩
theorem RowAt.lt {w : World} {e : TypeId} {v : Value} {xs : List Value} (h : RowAt w e v xs) : ∀ k, v.ownBlock = some k → k < w.heap.size := by
  rcases h with ⟨rfl, _⟩ | ⟨g, rfl, hc⟩
  · intro k hk; simp [Value.ownBlock] at hk
  · intro k hk
    simp [Value.ownBlock] at hk
    subst hk
    exact hc.lt

theorem add_block (x : Addr) (j : Nat) : (x.add j).block = x.block := by unfold Addr.add; split <;> rfl
theorem add_none (g o j : Nat) : (⟨g, o, none⟩ : Addr).add j = ⟨g, o + j, none⟩ := by unfold Addr.add; split <;> simp_all
theorem add_add (x : Addr) (n j : Nat) : (x.add n).add j = x.add (n + j) := by
  unfold Addr.add
  by_cases h : n = 0
  · subst h; simp
  · by_cases h' : j = 0
    · subst h'; simp [h]
    · simp [h, h', Nat.add_assoc]
/-- a slice's values, read only, none of them in a block of S -/
def ReadsOff (S : Nat → Prop) (w : World) (v : Value) (xs : List Value) : Prop :=
  ∃ a c, v = .slice a xs.length c ∧ xs.length ≤ c ∧ ∀ j u, xs[j]? = some u → ∃ x, a = some x ∧ ¬ S x.block ∧ w.cell? (x.add j) = some u
theorem RowAt.reads {S : Nat → Prop} {w : World} {e : TypeId} {v : Value} {xs : List Value} (h : RowAt w e v xs) (hs : ∀ k, v.ownBlock = some k → ¬ S k) : ReadsOff S w v xs := by
  rcases h with ⟨rfl, rfl⟩ | ⟨g, rfl, hc⟩
  · exact ⟨_, _, rfl, Nat.le_refl _, fun j u h => by simp at h⟩
  · refine ⟨_, _, rfl, Nat.le_refl _, fun j u h => ⟨_, rfl, hs g rfl, ?_⟩⟩
    have hadd : (⟨g, 0, none⟩ : Addr).add j = ⟨g, j, none⟩ := by unfold Addr.add; split <;> simp_all
    rw [hadd, hc.cell]; exact h
theorem ReadsOff.mono {S S' : Nat → Prop} {w : World} {v : Value} {xs : List Value} (h : ReadsOff S w v xs) (hs : ∀ k, S' k → k < w.heap.size → S k) : ReadsOff S' w v xs := by
  obtain ⟨a, c, rfl, hl, hc⟩ := h
  refine ⟨a, c, rfl, hl, fun j u hj => ?_⟩
  obtain ⟨x, hx, hn, hcell⟩ := hc j u hj
  exact ⟨x, hx, fun y => hn (hs _ y (by have := World.block_lt_of_cell? w _ hcell; rwa [add_block] at this)), hcell⟩
theorem ReadsOff.later {S : Nat → Prop} {w w' : World} {v : Value} {xs : List Value} (h : ReadsOff S w v xs) (hk : Keeps S w w') : ReadsOff (fun k => S k ∨ w.heap.size ≤ k) w' v xs := by
  obtain ⟨a, c, rfl, hl, hc⟩ := h
  refine ⟨a, c, rfl, hl, fun j u hj => ?_⟩
  obtain ⟨x, hx, hn, hcell⟩ := hc j u hj
  have hb := World.block_lt_of_cell? w _ hcell
  rw [add_block] at hb
  refine ⟨x, hx, ?_, ?_⟩
  · rintro (y | y)
    · exact hn y
    · omega
  · rw [World.cell?_of_block (w := w) (hk.block _ (by rw [add_block]; exact hb) (by rw [add_block]; exact hn))]; exact hcell
theorem ReadsOff.below {S : Nat → Prop} {w w' : World} {v : Value} {xs : List Value} (h : ReadsOff S w v xs) (hb : Below w.heap.size w w') : ReadsOff S w' v xs := by
  obtain ⟨a, c, rfl, hl, hc⟩ := h
  refine ⟨a, c, rfl, hl, fun j u hj => ?_⟩
  obtain ⟨x, hx, hn, hcell⟩ := hc j u hj
  exact ⟨x, hx, hn, by rw [hb.cell (World.block_lt_of_cell? w _ hcell)]; exact hcell⟩

/-- where the thing with i ahead of it lies in a room of n places -/
def pl (first n i : Nat) : Nat := if first + i < n then first + i else first + i - n

theorem splice_get {α : Type} (L : List α) (off : Nat) (cs : List α) (h : off ≤ L.length) (j : Nat) : (splice L off cs)[j]? = if j < off then L[j]? else if j < off + cs.length then cs[j - off]? else L[j]? := by
  unfold splice
  have ht : (L.take off).length = off := by simp; omega
  by_cases h1 : j < off
  · rw [if_pos h1, List.getElem?_append_left (by omega), List.getElem?_take, if_pos h1]
  · rw [if_neg h1, List.getElem?_append_right (by omega), ht]
    by_cases h2 : j < off + cs.length
    · rw [if_pos h2, List.getElem?_append_left (by omega)]
    · rw [if_neg h2, List.getElem?_append_right (by omega), List.getElem?_drop]
      congr 1
      omega
theorem splice_mem {α : Type} {L : List α} {off : Nat} {cs : List α} {x : α} (h : x ∈ splice L off cs) : x ∈ L ∨ x ∈ cs := by
  unfold splice at h
  simp only [List.mem_append] at h
  rcases h with h | h | h
  · exact .inl (List.mem_of_mem_take h)
  · exact .inr h
  · exact .inl (List.mem_of_mem_drop h)
end Go.Proofs.YtbbldkldgjmmgaaGreatDoor

/-
  More on a call's own memory. Of whatever program.
-/
namespace Go.Proofs.YtbbldkldgjmmgaaGreatDoor
open Go.RowKit

theorem Keeps.bel {a b : World} (h : Keeps Nowhere a b) : Below a.heap.size a b := h.below (Nat.le_refl _) (fun _ x => x.elim)
theorem row_new (w : World) (e : TypeId) (xs : List Value) : RowAt (w.alloc (.cells xs.toArray e)) e (.slice (some ⟨w.heap.size, 0, none⟩) xs.length xs.length) xs := .inr ⟨_, rfl, Cells.new w e xs⟩
theorem below_next {B : Nat} {S : Nat → Prop} {a b c : World} (h : Below B a b) (hk : Keeps S b c) (hB : B ≤ b.heap.size) (hs : ∀ k, S k → k < b.heap.size → B ≤ k) : Below B a c :=
  h.trans ⟨hk.os, hk.tape, hk.output, hk.size, fun k hlt => hk.block k (by omega) (fun x => by have := hs k x (by omega); omega)⟩
/-- []byte("..") of a constant: a new row with the run-time's mark behind it -/
theorem reads_mark (S : Nat → Prop) (w : World) (e : TypeId) (xs : List Value) (fr : Nat × Nat) (hs : ¬ S w.heap.size) : ReadsOff S (w.alloc (.cells xs.toArray e fr)) (.slice (some ⟨w.heap.size, 0, none⟩) xs.length xs.length) xs := by
  refine ⟨_, _, rfl, Nat.le_refl _, fun j u h => ⟨_, rfl, hs, ?_⟩⟩
  have hg : (w.alloc (.cells xs.toArray e fr)).heap[w.heap.size]? = some (.cells xs.toArray e fr) := heap_alloc_new w _
  have hadd : (⟨w.heap.size, 0, none⟩ : Addr).add j = ⟨w.heap.size, j, none⟩ := by unfold Addr.add; split <;> simp_all
  rw [hadd]
  unfold World.cell?
  rw [hg]
  simpa using h
end Go.Proofs.YtbbldkldgjmmgaaGreatDoor

/-
  Who owns a block: each object's memory by its owner's number. Of whatever program.
-/
namespace Go.Proofs.YtbbldkldgjmmgaaGreatDoor
open Go.RowKit

/-- the blocks from n on are i's, the others whose they were -/
def give (own : Nat → Nat) (n i : Nat) : Nat → Nat := fun k => if k < n then own k else i
theorem give_old {own : Nat → Nat} {n i k : Nat} (h : k < n) : give own n i k = own k := if_pos h
theorem give_new {own : Nat → Nat} {n i k : Nat} (h : n ≤ k) : give own n i k = i := if_neg (by omega)

variable {own : Nat → Nat} {i j : Nat} {w w' : World}

/-- a row that is i's -/
def RowO (own : Nat → Nat) (i : Nat) (w : World) (e : TypeId) (v : Value) (xs : List Value) : Prop := RowAt w e v xs ∧ ∀ k, v.ownBlock = some k → own k = i
theorem RowO.quiet {e : TypeId} {v : Value} {xs : List Value} (h : RowO own i w e v xs) (hk : Keeps Nowhere w w') : RowO own i w' e v xs := ⟨h.1.later hk (fun _ _ x => x), h.2⟩
theorem RowO.others {e : TypeId} {v : Value} {xs : List Value} (h : RowO own j w e v xs) (hk : Keeps (fun k => own k = i) w w') (hij : j ≠ i) (r : Nat) : RowO (give own w.heap.size r) j w' e v xs :=
  ⟨h.1.later hk (fun k e e' => hij ((h.2 k e).symm.trans e')), fun k e => (give_old (h.1.lt k e)).trans (h.2 k e)⟩
theorem RowO.reads {e : TypeId} {v : Value} {xs : List Value} (h : RowO own i w e v xs) : ReadsOff Nowhere w v xs := h.1.reads (fun _ _ x => x)
/-- a block of cells that is i's -/
def CellsO (own : Nat → Nat) (i : Nat) (w : World) (g : Nat) (e : TypeId) (xs : List Value) : Prop := Cells w g e xs ∧ own g = i
theorem CellsO.quiet {g : Nat} {e : TypeId} {xs : List Value} (h : CellsO own i w g e xs) (hk : Keeps Nowhere w w') : CellsO own i w' g e xs := ⟨h.1.later hk (fun x => x), h.2⟩
theorem CellsO.others {g : Nat} {e : TypeId} {xs : List Value} (h : CellsO own j w g e xs) (hk : Keeps (fun k => own k = i) w w') (hij : j ≠ i) (r : Nat) : CellsO (give own w.heap.size r) j w' g e xs :=
  ⟨h.1.later hk (fun e' => hij (h.2.symm.trans e')), (give_old h.1.lt).trans h.2⟩

/-- below B all is as it was, and nobody's -/
structure Ground (B : Nat) (w0 : World) (own : Nat → Nat) (w : World) : Prop where
  zero : ∀ k, k < B → own k = 0
  bel : Below B w0 w
  size : B ≤ w.heap.size
theorem Ground.quiet {B : Nat} {w0 : World} (h : Ground B w0 own w) (hk : Keeps Nowhere w w') : Ground B w0 own w' :=
  ⟨h.zero, below_next h.bel hk h.size (fun _ x _ => x.elim), Nat.le_trans h.size hk.size⟩
theorem Ground.step {B : Nat} {w0 : World} (h : Ground B w0 own w) (hk : Keeps (fun k => own k = i) w w') (hi : i ≠ 0) (r : Nat) : Ground B w0 (give own w.heap.size r) w' := by
  refine ⟨fun k hlt => (give_old (by have := h.size; omega)).trans (h.zero k hlt), below_next h.bel hk h.size (fun k e _ => ?_), Nat.le_trans h.size hk.size⟩
  rcases Nat.lt_or_ge k B with hlt | hge
  · have := h.zero k hlt; omega
  · exact hge
theorem Ground.give {B : Nat} {w0 : World} (h : Ground B w0 own w) (n r : Nat) (hn : B ≤ n) : Ground B w0 (give own n r) w :=
  ⟨fun k hlt => (give_old (by omega)).trans (h.zero k hlt), h.bel, h.size⟩
/-- what lies below B is read as ever -/
theorem Ground.reads {B : Nat} {w0 : World} {v : Value} {xs : List Value} (h : Ground B w0 own w) (hx : ReadsOff Nowhere w0 v xs) (hB : B = w0.heap.size) (hi : i ≠ 0) : ReadsOff (fun k => own k = i) w v xs := by
  subst hB
  obtain ⟨a, c, rfl, hl, hc⟩ := hx
  refine ⟨a, c, rfl, hl, fun j u hj => ?_⟩
  obtain ⟨x, hx, _, hcell⟩ := hc j u hj
  have hb := World.block_lt_of_cell? w0 _ hcell
  rw [add_block] at hb
  refine ⟨x, hx, fun e => ?_, ?_⟩
  · have := h.zero _ hb; omega
  · rw [h.bel.cell (by rw [add_block]; exact hb)]; exact hcell
theorem Ground.cell {B : Nat} {w0 : World} {p : Addr} {v : Value} (h : Ground B w0 own w) (hB : B = w0.heap.size) (hc : w0.cell? p = some v) : w.cell? p = some v := by
  subst hB
  rw [h.bel.cell (World.block_lt_of_cell? w0 _ hc)]; exact hc
end Go.Proofs.YtbbldkldgjmmgaaGreatDoor

/-
  copy, clear and make on rows of a call's own: as steps of a walk. Of whatever program.
-/
namespace Go.Proofs.YtbbldkldgjmmgaaGreatDoor
open Go.RowKit

theorem add_at (g o j : Nat) : (⟨g, o, none⟩ : Addr).add j = ⟨g, o + j, none⟩ := by unfold Addr.add; split <;> simp_all

/-- copy(d, s): into the row of block g from off on, where anything is copied at all -/
theorem run_copyK {P : Program} (w : World) (dT sT elem : TypeId) (hu : P.underlying dT = some (.slice elem)) (hsz : (P.info? elem).map (·.size) = some 1)
    (dp sp : Option Addr) (dLen dCap sLen sCap : Nat) (g off : Nat) (cur : List Value) (t : TypeId) (hg : Cells w g t cur) (cs : List Value) (hn : cs.length = Nat.min sLen dLen)
    (hpos : 0 < cs.length → dp = some ⟨g, off, none⟩ ∧ ∃ ad, sp = some ad ∧ ∀ j v, cs[j]? = some v → w.cell? (ad.add j) = some v)
    (hfit : off + cs.length ≤ cur.length) (h1 : ∀ v ∈ cs, v.oneCell' = true) :
    ∃ w', (∀ ty, (Builtin.copy_ #[dT, sT] ty #[.slice dp dLen dCap, .slice sp sLen sCap]).run P w = .ok (.int .i64 cs.length) w') ∧ Cells w' g t (splice cur off cs) ∧ Keeps (fun k => k = g) w w' := by
  by_cases h0 : cs.length = 0
  · obtain rfl : cs = [] := List.eq_nil_of_length_eq_zero h0
    refine ⟨w, fun ty => run_copy_none (P := P) w dT sT ty elem dp sp dLen dCap sLen sCap hu hsz (by simpa using hn.symm), by simpa [splice] using hg, Keeps.refl _ _⟩
  · obtain ⟨rfl, ad, rfl, hsrc⟩ := hpos (by omega)
    refine ⟨_, fun ty => run_copy_row (P := P) w dT sT ty elem g off dLen dCap ad sLen sCap cur.toArray t cs hu hsz hg hn hsrc (by simpa using hfit) h1, ?_, (Keeps.refl _ _).setRow g _ (fun _ => rfl)⟩
    have := hg.set (splice cur off cs)
    simpa [splice] using this

theorem step_copyK {P : Program} {ops : Array Oper} {o : Oper} {a : Act} {w : World} {K : Act → World → Prop} {Q : Exit → Act → World → Prop} {E : Prop} (tmp : Tmp) (hdst : o.dst = some tmp) (hgd : o.guard = none) (d s : Operand) (dT sT : TypeId)
    (ho : o.op = .call { callee := .builtin .copy, args := #[d, s], argTypes := #[dT, sT] }) (elem : TypeId) (hu : P.underlying dT = some (.slice elem)) (hsz : (P.info? elem).map (·.size) = some 1)
    (dp sp : Option Addr) (dLen dCap sLen sCap : Nat) (hd : a.eval d = .slice dp dLen dCap) (hs : a.eval s = .slice sp sLen sCap)
    (g off : Nat) (cur : List Value) (t : TypeId) (hg : Cells w g t cur) (cs : List Value) (hn : cs.length = Nat.min sLen dLen)
    (hpos : 0 < cs.length → dp = some ⟨g, off, none⟩ ∧ ∃ ad, sp = some ad ∧ ∀ j v, cs[j]? = some v → w.cell? (ad.add j) = some v)
    (k : Nat) (hk : cs.length = k) (hfit : off + cs.length ≤ cur.length) (h1 : ∀ v ∈ cs, v.oneCell' = true)
    (h : ∀ w', Hid (Cells w' g t (splice cur off cs)) → Hid (Keeps (fun k => k = g) w w') → K (a.put (some tmp) (.int .i64 k)) w') :
    if Region.wanted o (yielded ops a.tmps) = true then Oper.wp P o a w K Q else E := by
  subst hk
  have hw : Region.wanted o (yielded ops a.tmps) = true := by simp [Region.wanted, hgd]
  rw [if_pos hw]
  obtain ⟨w', hrun, h2, h3⟩ := run_copyK (P := P) w dT sT elem hu hsz dp sp dLen dCap sLen sCap g off cur t hg cs hn hpos hfit h1
  unfold Oper.wp
  simp [execOp, ho, resolve, invoke, builtin, hd, hs, hrun, Result.andThen]
  rw [← hdst] at h
  exact h w' h2 h3

theorem wpList_copyK {P : Program} {w : World} {ops : Array Oper} {rest : List Oper} {o : Oper} {a : Act} {Q : Exit → Act → World → Prop} (hgd : o.guard = none) (d s : Operand) (dT sT : TypeId)
    (ho : o.op = .call { callee := .builtin .copy, args := #[d, s], argTypes := #[dT, sT] }) (elem : TypeId) (hu : P.underlying dT = some (.slice elem)) (hsz : (P.info? elem).map (·.size) = some 1)
    (dp sp : Option Addr) (dLen dCap sLen sCap : Nat) (hd : a.eval d = .slice dp dLen dCap) (hs : a.eval s = .slice sp sLen sCap)
    (g off : Nat) (cur : List Value) (t : TypeId) (hg : Cells w g t cur) (cs : List Value) (hn : cs.length = Nat.min sLen dLen)
    (hpos : 0 < cs.length → dp = some ⟨g, off, none⟩ ∧ ∃ ad, sp = some ad ∧ ∀ j v, cs[j]? = some v → w.cell? (ad.add j) = some v)
    (k : Nat) (hk : cs.length = k) (hfit : off + cs.length ≤ cur.length) (h1 : ∀ v ∈ cs, v.oneCell' = true)
    (h : ∀ w', Hid (Cells w' g t (splice cur off cs)) → Hid (Keeps (fun k => k = g) w w') → wpList P ops Q rest (a.put o.dst (.int .i64 k)) w') :
    wpList P ops Q (o :: rest) a w := by
  subst hk
  refine wpList_plain hgd fun K hK => ?_
  obtain ⟨w', hrun, h2, h3⟩ := run_copyK (P := P) w dT sT elem hu hsz dp sp dLen dCap sLen sCap g off cur t hg cs hn hpos hfit h1
  unfold Oper.wp
  simp [execOp, ho, resolve, invoke, builtin, hd, hs, hrun, Result.andThen]
  exact hK _ _ (h w' h2 h3)

theorem splice_splice {α : Type} (L a b : List α) (o n : Nat) (hn : n = o + a.length) (h : o + a.length ≤ L.length) : splice (splice L o a) n b = splice L o (a ++ b) := by
  subst hn
  have hl : (splice L o a).length = L.length := length_splice L o a h
  apply List.ext_getElem?
  intro j
  rw [splice_get _ _ _ (by rw [hl]; exact h), splice_get _ _ _ (by omega), splice_get _ _ _ (by omega)]
  simp only [List.length_append]
  by_cases h1 : j < o
  · simp [h1, show j < o + a.length by omega]
  · by_cases h2 : j < o + a.length
    · simp [h1, h2, show j < o + (a.length + b.length) by omega, List.getElem?_append_left (show j - o < a.length by omega)]
    · by_cases h3 : j < o + (a.length + b.length)
      · simp [h1, h2, h3, show j < o + a.length + b.length by omega, List.getElem?_append_right (show a.length ≤ j - o by omega), Nat.sub_sub]
      · simp [h1, h2, h3, show ¬ j < o + a.length + b.length by omega]

/-- clear(s) -/
theorem run_clearK {P : Program} (w : World) (t e : TypeId) (z : Value) (ht : P.underlying t = some (.slice e)) (hv : ∀ w, (zeroValue e).run P w = .ok z w) (hz : z.cells = #[z]) (h1 : z.oneCell' = true)
    (dp : Option Addr) (n c : Nat) (g off : Nat) (cur : List Value) (te : TypeId) (hg : Cells w g te cur) (hpos : 0 < n → dp = some ⟨g, off, none⟩) (hfit : off + n ≤ cur.length) :
    ∃ w', (∀ ty, (Builtin.clear_ #[t] ty #[.slice dp n c]).run P w = .ok (.tuple #[]) w') ∧ Cells w' g te (splice cur off (List.replicate n z)) ∧ Keeps (fun k => k = g) w w' := by
  by_cases h0 : n = 0
  · subst h0
    refine ⟨w, ?_, by simpa [splice] using hg, Keeps.refl _ _⟩
    intro ty
    cases dp <;> simp [Builtin.clear_, run_underlying ht]
  · obtain rfl := hpos (by omega)
    have hzc : (Builtin.zeroCells z.cells n).toList = List.replicate n z := by
      rw [hz]
      simp [Builtin.zeroCells]
      apply List.ext_getElem
      · simp
      · intro i h1 h2
        simp [Nat.mod_one]
    have hst := run_storeCells_at P g off te (List.replicate n z) 0 cur.toArray w hg (by simpa using hfit) (by intro v hv'; rw [List.eq_of_mem_replicate hv']; exact h1)
    refine ⟨w.setRow g (splice cur off (List.replicate n z)).toArray, ?_, hg.set _, (Keeps.refl _ _).setRow g _ (fun _ => rfl)⟩
    intro ty
    obtain ⟨m, rfl⟩ : ∃ m, n = m + 1 := ⟨n - 1, by omega⟩
    simp [Builtin.clear_, run_underlying ht, hv, hzc, hst, splice]

/-- make([]T, n) runs to v in w': a word of its own, which the walk leaves alone -/
structure MakeRun (P : Program) (t : TypeId) (n : Nat) (w : World) (v : Value) (w' : World) : Prop where
  run : (Instr.makeSlice t (.int .i64 n) (.int .i64 n)).run P w = .ok v w'
/-- make([]T, n) -/
theorem run_makeK {P : Program} (w : World) (t e : TypeId) (i : TypeInfo) (z : Value) (ht : P.underlying t = some (.slice e)) (hi : P.info? e = some i) (hz : i.zero = some z) (hs : i.size = 1) (hc : z.cells = #[z])
    (n : Nat) (hbytes : i.bytes * n ≤ 281474976710656) (h63 : n ≤ 9223372036854775807) :
    ∃ w', (Instr.makeSlice t (.int .i64 n) (.int .i64 n)).run P w = .ok (.slice (some ⟨w.heap.size, 0, none⟩) n n) w' ∧ Cells w' w.heap.size e (List.replicate n z) ∧ Keeps Nowhere w w' ∧ w'.heap.size = w.heap.size + 1 := by
  have h := run_make (P := P) w t e i z ht hi hz .i64 .i64 n n (by omega) (by omega) (by rw [← Int.natCast_mul]; omega) (by omega)
  have hm : madeCells z.cells ((n : Int).toNat * i.size) = (List.replicate n z).toArray := by
    rw [hs, hc]
    apply Array.ext
    · simp [madeCells]
    · intro j h1 h2
      simp [madeCells, Nat.mod_one]
  rw [hm] at h
  exact ⟨_, h, Cells.new _ _ _, (Keeps.refl _ _).alloc _, by simp⟩
theorem wpList_makeK {P : Program} {w : World} {ops : Array Oper} {rest : List Oper} {o : Oper} {a : Act} {Q : Exit → Act → World → Prop} (hg : o.guard = none) (l c : Operand) (t : TypeId) (hop : o.op = Op.makeSlice t l c)
    (n : Nat) (hl : a.eval l = .int .i64 n) (hc : a.eval c = .int .i64 n) (w' : World) (v : Value) (hr : MakeRun P t n w v w')
    (hK : wpList P ops Q rest (a.put o.dst v) w') : wpList P ops Q (o :: rest) a w := by
  have hrun : (Instr.makeSlice t (.int .i64 n) (.int .i64 n)).run P w = .ok v w' := hr.run
  refine wpList_plain hg fun K hK' => ?_
  unfold Oper.wp
  simp [execOp, hop, hl, hc, hrun, Result.andThen]
  exact hK' _ _ hK
end Go.Proofs.YtbbldkldgjmmgaaGreatDoor

/-
  append onto a row of the call's own. Of whatever program.
-/
namespace Go.Proofs.YtbbldkldgjmmgaaGreatDoor
open Go.RowKit

/-- a slice without an address has no room -/
def NilOk (v : Value) : Prop := ∀ l c, v = .slice none l c → c = 0

theorem run_appendK {P : Program} (w : World) (base : Nat) (t e : TypeId) (i : TypeInfo) (z : Value) (bytes : Nat) (ht : P.underlying t = some (.slice e)) (hi : P.info? e = some i) (hz : i.zero = some z) (hsize : i.size = 1) (hby : i.bytes = bytes)
    (hzs : z.cells.size = 1) (v : Value) (xs : List Value) (hown : w.ownsRow base e 1 v xs.length xs) (sv : Value) (ys : List Value) (hr : ReadsOff Nowhere w sv ys) (hnil : NilOk sv) (h1 : ∀ u ∈ ys, u.oneCell' = true)
    (hb : (xs.length + ys.length) * bytes ≤ 140737488355328) (h63 : xs.length + ys.length ≤ maxLen) (hbase : base ≤ w.heap.size) :
    ∃ v' w', (∀ ty, (Builtin.append_ #[t, t] ty #[v, sv]).run P w = .ok v' w') ∧ w'.ownsRow base e 1 v' (xs ++ ys).length (xs ++ ys) ∧ w.grownBy w' v.ownBlock := by
  obtain ⟨a, c, rfl, hlc, hc⟩ := hr
  cases a with
  | none =>
    obtain rfl : ys = [] := by
      cases ys with
      | nil => rfl
      | cons u us => obtain ⟨x, hx, _⟩ := hc 0 u rfl; cases hx
    obtain rfl := hnil _ _ rfl
    refine ⟨v, w, fun ty => ?_, by simpa using hown, ⟨rfl, rfl, rfl, Nat.le_refl _, fun _ _ _ => rfl⟩⟩
    exact run_append_owned_none (P := P) (w := w) base t ty e i 1 ht hi v xs.length xs hown
  | some ad =>
    obtain ⟨v', w', hrun, ho, hg, _⟩ := run_append_own (P := P) w base t 0 e i z 1 bytes ht hi hz hsize hby hzs (by decide) v xs.length xs hown ad ys.length c ys (by simp) (fun j u hj => by
      obtain ⟨x, hx, _, hce⟩ := hc j u hj
      cases hx
      exact hce) h1 h63 hb hbase
    refine ⟨v', w', fun ty => hrun, ?_, hg⟩
    rw [List.length_append]
    exact ho

theorem wpList_appendK {P : Program} {w : World} {ops : Array Oper} {rest : List Oper} {o : Oper} {a : Act} {Q : Exit → Act → World → Prop} (hgd : o.guard = none) (s x : Operand) (t : TypeId)
    (ho : o.op = .call { callee := .builtin .append, args := #[s, x], argTypes := #[t, t] }) (v sv v' : Value) (w' : World) (hs : a.eval s = v) (hx : a.eval x = sv) (hrun : ∀ ty, (Builtin.append_ #[t, t] ty #[v, sv]).run P w = .ok v' w')
    (h : wpList P ops Q rest (a.put o.dst v') w') : wpList P ops Q (o :: rest) a w := by
  refine wpList_plain hgd fun K hK => ?_
  unfold Oper.wp
  simp [execOp, ho, resolve, invoke, builtin, hs, hx, hrun, Result.andThen]
  exact hK _ _ h

theorem step_appendK {P : Program} {ops : Array Oper} {o : Oper} {a : Act} {w : World} {K : Act → World → Prop} {Q : Exit → Act → World → Prop} {E : Prop} (tmp : Tmp) (hdst : o.dst = some tmp) (hgd : o.guard = none) (s x : Operand) (t : TypeId)
    (ho : o.op = .call { callee := .builtin .append, args := #[s, x], argTypes := #[t, t] }) (v sv v' : Value) (w' : World) (hs : a.eval s = v) (hx : a.eval x = sv) (hrun : ∀ ty, (Builtin.append_ #[t, t] ty #[v, sv]).run P w = .ok v' w')
    (h : K (a.put (some tmp) v') w') : if Region.wanted o (yielded ops a.tmps) = true then Oper.wp P o a w K Q else E := by
  have hw : Region.wanted o (yielded ops a.tmps) = true := by simp [Region.wanted, hgd]
  rw [if_pos hw]
  unfold Oper.wp
  simp [execOp, ho, resolve, invoke, builtin, hs, hx, hrun, Result.andThen]
  rw [← hdst] at h
  exact h

theorem grown_keeps {w w' : World} {row : Option Nat} (h : w.grownBy w' row) : Keeps (fun k => row = some k) w w' :=
  ⟨h.os, h.tape, h.output, h.size, fun k hk hn => h.block k hk (fun e => hn e.symm)⟩
theorem owns_reads {w : World} {base : Nat} {e : TypeId} {v : Value} {xs : List Value} (h : w.ownsRow base e 1 v xs.length xs) : ReadsOff (fun k => k < base) w v xs ∧ NilOk v := by
  rcases h.2 with ⟨rfl, h0⟩ | ⟨g, cap, cur, rfl, hb, hg, hn, _, hs, ht⟩
  · obtain rfl := List.eq_nil_of_length_eq_zero h0
    exact ⟨⟨none, 0, rfl, Nat.le_refl _, fun j u hj => by simp at hj⟩, fun l c e => by injection e with _ _ e; exact e.symm⟩
  · refine ⟨⟨some ⟨g, 0, none⟩, cap, rfl, hn, fun j u hj => ⟨_, rfl, by show ¬ g < base; omega, h.cells rfl j u hj⟩⟩, fun l c e => by injection e with e; cases e⟩
theorem owns_keeps {S : Nat → Prop} {w w' : World} {base : Nat} {e : TypeId} {n : Nat} {v : Value} {xs : List Value} (h : w.ownsRow base e 1 v n xs) (hk : Keeps S w w') (hn : ∀ k, v.ownBlock = some k → ¬ S k) : w'.ownsRow base e 1 v n xs := by
  refine ⟨h.1, ?_⟩
  rcases h.2 with h0 | ⟨g, cap, cur, rfl, hb, hg, rest⟩
  · exact .inl h0
  · exact .inr ⟨g, cap, cur, rfl, hb, (hk.block g (Array.getElem?_eq_some_iff.1 hg).1 (hn g rfl)).trans hg, rest⟩
/-- an empty literal: a new row without cells -/
theorem owns_empty (w : World) (e : TypeId) : (w.alloc (.cells #[] e)).ownsRow w.heap.size e 1 (.slice (some ⟨w.heap.size, 0, none⟩) 0 0) 0 [] :=
  World.ownsRow_made w #[] 0 (Nat.le_refl _) (Nat.zero_le _) rfl
theorem ReadsOff.slice {S : Nat → Prop} {w : World} {a : Option Addr} {l c : Nat} {xs : List Value} (h : ReadsOff S w (.slice a l c) xs) (k : Nat) (hk : k ≤ xs.length) : ReadsOff S w (.slice a k c) (xs.take k) := by
  obtain ⟨a', c', he, hlc, hc⟩ := h
  injection he with e1 e2 e3
  subst e1 e3
  have hl : (xs.take k).length = k := by simp; omega
  refine ⟨a, c, by rw [hl], by omega, fun j u hj => hc j u ?_⟩
  rw [List.getElem?_take] at hj
  split at hj
  · exact hj
  · cases hj
theorem ReadsOff.drop {S : Nat → Prop} {w : World} {ad : Addr} {l c : Nat} {xs : List Value} (h : ReadsOff S w (.slice (some ad) l c) xs) (k : Nat) (hk : k ≤ xs.length) :
    ReadsOff S w (.slice (if c = k then some ad else some (ad.add k)) (l - k) (c - k)) (xs.drop k) := by
  obtain ⟨a', c', he, hlc, hc⟩ := h
  injection he with e1 e2 e3
  subst e1 e2 e3
  refine ⟨_, _, by rw [List.length_drop], by rw [List.length_drop]; omega, fun j u hj => ?_⟩
  rw [List.getElem?_drop] at hj
  obtain ⟨x, hx, hn, hce⟩ := hc (k + j) u hj
  cases hx
  have hlt : k + j < xs.length := (List.getElem?_eq_some_iff.1 hj).1
  exact ⟨ad.add k, if_neg (by omega), by rw [add_block]; exact hn, by rw [add_add]; exact hce⟩
theorem ReadsOff.len {S : Nat → Prop} {w : World} {a : Option Addr} {l c : Nat} {xs : List Value} (h : ReadsOff S w (.slice a l c) xs) : l = xs.length ∧ xs.length ≤ c := by
  obtain ⟨a', c', he, hlc, hc⟩ := h
  injection he with e1 e2 e3
  subst e3
  exact ⟨e2, hlc⟩
/-- append([]T{}, src...): what it leaves, wherever the empty row was laid -/
theorem copyRow {P : Program} (w W : World) (t e : TypeId) (i : TypeInfo) (z : Value) (bytes : Nat) (ht : P.underlying t = some (.slice e)) (hi : P.info? e = some i) (hz : i.zero = some z) (hsize : i.size = 1) (hby : i.bytes = bytes)
    (hzs : z.cells.size = 1) (hk : Keeps Nowhere w W) (g : Nat) (hg : w.heap.size ≤ g) (hown : W.ownsRow g e 1 (.slice (some ⟨g, 0, none⟩) 0 0) 0 []) (sv : Value) (ys : List Value) (hr : ReadsOff Nowhere w sv ys) (hnil : NilOk sv) (h1 : ∀ u ∈ ys, u.oneCell' = true)
    (hb : ys.length * bytes ≤ 140737488355328) (h63 : ys.length ≤ maxLen) :
    ∃ v' w', (∀ ty, (Builtin.append_ #[t, t] ty #[.slice (some ⟨g, 0, none⟩) 0 0, sv]).run P W = .ok v' w') ∧ w'.ownsRow g e 1 v' ys.length ys ∧ Keeps (fun k => k = g) W w' ∧ Keeps Nowhere w w' := by
  have hgl : g < W.heap.size := by
    rcases hown.2 with ⟨h, _⟩ | ⟨g', cap, cur, h, _, h2, _⟩
    · cases h
    · injection h with h; injection h with h; injection h with h; subst h; exact (Array.getElem?_eq_some_iff.1 h2).1
  obtain ⟨v', w', run, o, gr⟩ := run_appendK (P := P) W g t e i z bytes ht hi hz hsize hby hzs _ [] hown sv ys ((hr.later hk).mono (fun _ x _ => x.elim)) hnil h1 (by simpa using hb) (by simpa using h63) (Nat.le_of_lt hgl)
  rw [List.nil_append] at o
  have k1 : Keeps (fun k => k = g) W w' := (grown_keeps gr).mono (fun k e _ => by simp only [Value.ownBlock, Option.some.injEq] at e; exact e.symm)
  exact ⟨v', w', run, o, k1, hk.next k1 (fun k e hlt => by omega)⟩
theorem step_copyRow {P : Program} {ops : Array Oper} {o : Oper} {a : Act} {W : World} {K : Act → World → Prop} {Q : Exit → Act → World → Prop} {E : Prop} (tmp : Tmp) (hdst : o.dst = some tmp) (hgd : o.guard = none) (s x : Operand) (t : TypeId)
    (ho : o.op = .call { callee := .builtin .append, args := #[s, x], argTypes := #[t, t] }) (e : TypeId) (z : Value) (bytes : Nat) (ht : P.underlying t = some (.slice e)) (hinfo : (P.info? e).map (fun i => (i.zero, i.size, i.bytes)) = some (some z, 1, bytes))
    (hzs : z.cells.size = 1) (w : World) (hk : Keeps Nowhere w W) (g : Nat) (hg : w.heap.size ≤ g) (hown : W.ownsRow g e 1 (.slice (some ⟨g, 0, none⟩) 0 0) 0 []) (sv : Value) (ys : List Value) (hr : ReadsOff Nowhere w sv ys) (hnil : NilOk sv) (h1 : ∀ u ∈ ys, u.oneCell' = true)
    (hb : ys.length * bytes ≤ 140737488355328) (h63 : ys.length ≤ maxLen) (hs : a.eval s = .slice (some ⟨g, 0, none⟩) 0 0) (hx : a.eval x = sv)
    (h : ∀ v' w', Aside (w'.ownsRow g e 1 v' ys.length ys) → Aside (Keeps (fun k => k = g) W w') → Aside (Keeps Nowhere w w') → K (a.put (some tmp) v') w') :
    if Region.wanted o (yielded ops a.tmps) = true then Oper.wp P o a W K Q else E := by
  obtain ⟨i, hi, hz0, hz1, hz2⟩ := info_parts hinfo
  obtain ⟨v', w', run, o', k1, k2⟩ := copyRow (P := P) w W t e i z bytes ht hi hz0 hz1 hz2 hzs hk g hg hown sv ys hr hnil h1 hb h63
  exact step_appendK tmp hdst hgd s x t ho _ sv v' w' hs hx run (h v' w' ⟨o'⟩ ⟨k1⟩ ⟨k2⟩)
theorem wpList_copyRow {P : Program} {W : World} {ops : Array Oper} {rest : List Oper} {o : Oper} {a : Act} {Q : Exit → Act → World → Prop} (hgd : o.guard = none) (s x : Operand) (t : TypeId)
    (ho : o.op = .call { callee := .builtin .append, args := #[s, x], argTypes := #[t, t] }) (e : TypeId) (z : Value) (bytes : Nat) (ht : P.underlying t = some (.slice e)) (hinfo : (P.info? e).map (fun i => (i.zero, i.size, i.bytes)) = some (some z, 1, bytes))
    (hzs : z.cells.size = 1) (w : World) (hk : Keeps Nowhere w W) (g : Nat) (hg : w.heap.size ≤ g) (hown : W.ownsRow g e 1 (.slice (some ⟨g, 0, none⟩) 0 0) 0 []) (sv : Value) (ys : List Value) (hr : ReadsOff Nowhere w sv ys) (hnil : NilOk sv) (h1 : ∀ u ∈ ys, u.oneCell' = true)
    (hb : ys.length * bytes ≤ 140737488355328) (h63 : ys.length ≤ maxLen) (hs : a.eval s = .slice (some ⟨g, 0, none⟩) 0 0) (hx : a.eval x = sv)
    (h : ∀ v' w', Aside (w'.ownsRow g e 1 v' ys.length ys) → Aside (Keeps (fun k => k = g) W w') → Aside (Keeps Nowhere w w') → wpList P ops Q rest (a.put o.dst v') w') : wpList P ops Q (o :: rest) a W := by
  obtain ⟨i, hi, hz0, hz1, hz2⟩ := info_parts hinfo
  obtain ⟨v', w', run, o', k1, k2⟩ := copyRow (P := P) w W t e i z bytes ht hi hz0 hz1 hz2 hzs hk g hg hown sv ys hr hnil h1 hb h63
  exact wpList_appendK hgd s x t ho _ sv v' w' hs hx run (h v' w' ⟨o'⟩ ⟨k1⟩ ⟨k2⟩)
end Go.Proofs.YtbbldkldgjmmgaaGreatDoor

/-
  Rows of things that take k cells each. Of whatever program.
-/
namespace Go.Proofs.YtbbldkldgjmmgaaGreatDoor
open Go.RowKit

/-- n things of k cells each, read only -/
def ReadsK (k : Nat) (w : World) (v : Value) (n : Nat) (xs : List Value) : Prop :=
  xs.length = n * k ∧ ∃ a c, v = .slice a n c ∧ n ≤ c ∧ c ≤ maxLen ∧ (a = none → c = 0) ∧ ∀ j u, xs[j]? = some u → ∃ g o, a = some ⟨g, o, none⟩ ∧ w.cell? ⟨g, o + j, none⟩ = some u


theorem alloc_cell {W : World} {a : Addr} {v : Value} (o : Obj) (h : W.cell? a = some v) : (W.alloc o).cell? a = some v := by
  rw [World.cell?_of_block (w := W) (Below.heap_alloc W o a.block (World.block_lt_of_cell? W _ h))]; exact h
theorem ReadsK.later {S : Nat → Prop} {k : Nat} {w w' : World} {v : Value} {n : Nat} {xs : List Value} (h : ReadsK k w v n xs) (hk : Keeps S w w') (hn : ∀ b, v.ownBlock = some b → ¬ S b) : ReadsK k w' v n xs := by
  obtain ⟨hl, a, c, rfl, hnc, hm, ha, hc⟩ := h
  refine ⟨hl, a, c, rfl, hnc, hm, ha, fun j u hj => ?_⟩
  obtain ⟨g, o, rfl, hcell⟩ := hc j u hj
  exact ⟨g, o, rfl, by rw [World.cell?_of_block (w := w) (hk.block g (World.block_lt_of_cell? w _ hcell) (hn g rfl))]; exact hcell⟩

theorem owns_readsK {w : World} {base : Nat} {e : TypeId} {k n : Nat} {v : Value} {xs : List Value} (h : w.ownsRow base e k v n xs) : ReadsK k w v n xs := by
  refine ⟨h.1, ?_⟩
  rcases id h.2 with ⟨rfl, h0⟩ | ⟨g, cap, cur, rfl, hb, hg, hn, hm, hs, ht⟩
  · subst h0
    exact ⟨none, 0, rfl, Nat.le_refl _, Nat.zero_le _, fun _ => rfl, fun j u hj => by have := List.eq_nil_of_length_eq_zero (h.1.trans (Nat.zero_mul _)); subst this; simp at hj⟩
  · refine ⟨some ⟨g, 0, none⟩, cap, rfl, hn, hm, fun e => (by cases e), fun j u hj => ⟨g, 0, rfl, ?_⟩⟩
    have := h.cells rfl j u hj
    rwa [add_none] at this
theorem owns_shapeK {w : World} {base : Nat} {e : TypeId} {k n : Nat} {v : Value} {xs : List Value} (h : w.ownsRow base e k v n xs) : ∃ p q r, v = .slice p q r := by
  rcases h.2 with ⟨rfl, _⟩ | ⟨g, cap, cur, rfl, _⟩
  · exact ⟨_, _, _, rfl⟩
  · exact ⟨_, _, _, rfl⟩
theorem owns_setCell {w : World} {base : Nat} {e : TypeId} {k n g l c : Nat} {xs : List Value} (h : w.ownsRow base e k (.slice (some ⟨g, 0, none⟩) l c) n xs) (j : Nat) (hj : j < n * k) (u : Value) : (w.setCell ⟨g, j, none⟩ u).ownsRow base e k (.slice (some ⟨g, 0, none⟩) l c) n (xs.set j u) := by
  refine ⟨by rw [List.length_set]; exact h.1, ?_⟩
  rcases h.2 with ⟨h, _⟩ | ⟨g', cap, cur, he, hb, hg, hn, hm, hs, ht⟩
  · cases h
  · injection he with e1 e2 e3
    injection e1 with e1
    injection e1 with e1
    subst e1 e2 e3
    refine .inr ⟨g, c, cur.setIfInBounds j u, rfl, hb, ?_, hn, hm, by simpa using hs, ?_⟩
    · rw [setCell_eq_setRow w g j _ e _ u hg, setRow_heap w g _ _ e _ hg]
    · rw [Array.toList_setIfInBounds, List.take_set, ht]
theorem owns_frozen {w : World} {base : Nat} {e : TypeId} {k n g l c : Nat} {xs : List Value} (h : w.ownsRow base e k (.slice (some ⟨g, 0, none⟩) l c) n xs) (j : Nat) : w.frozen? ⟨g, j, none⟩ = false := by
  rcases h.2 with ⟨h, _⟩ | ⟨g', cap, cur, he, hb, hg, _⟩
  · cases h
  · injection he with e1 e2 e3
    injection e1 with e1
    injection e1 with e1
    subst e1
    simp [World.frozen?, hg]
theorem owns_any {w : World} {base : Nat} {e : TypeId} {k n : Nat} {v : Value} {xs : List Value} (h : w.ownsRow base e k v n xs) : w.ownsRow 0 e k v n xs := by
  refine ⟨h.1, ?_⟩
  rcases h.2 with h0 | ⟨g, cap, cur, rfl, hb, hg, rest⟩
  · exact .inl h0
  · exact .inr ⟨g, cap, cur, rfl, Nat.zero_le _, hg, rest⟩
theorem owns_later {S : Nat → Prop} {w w' : World} {base : Nat} {e : TypeId} {k n : Nat} {v : Value} {xs : List Value} (h : w.ownsRow base e k v n xs) (hk : Keeps S w w') (hn : ∀ b, v.ownBlock = some b → ¬ S b) : w'.ownsRow base e k v n xs := by
  refine ⟨h.1, ?_⟩
  rcases h.2 with h0 | ⟨g, cap, cur, rfl, hb, hg, rest⟩
  · exact .inl h0
  · exact .inr ⟨g, cap, cur, rfl, hb, (hk.block g (Array.getElem?_eq_some_iff.1 hg).1 (hn g rfl)).trans hg, rest⟩
theorem owns_lt {w : World} {base : Nat} {e : TypeId} {k n : Nat} {v : Value} {xs : List Value} (h : w.ownsRow base e k v n xs) : ∀ b, v.ownBlock = some b → b < w.heap.size := by
  rcases h.2 with ⟨rfl, _⟩ | ⟨g, cap, cur, rfl, hb, hg, rest⟩
  · intro b hb; simp [Value.ownBlock] at hb
  · intro b hb
    simp only [Value.ownBlock, Option.some.injEq] at hb
    subst hb
    exact (Array.getElem?_eq_some_iff.1 hg).1
theorem owns_base {w : World} {base : Nat} {e : TypeId} {k n : Nat} {v : Value} {xs : List Value} (h : w.ownsRow base e k v n xs) : ∀ b, v.ownBlock = some b → base ≤ b := by
  rcases h.2 with ⟨rfl, _⟩ | ⟨g, cap, cur, rfl, hb, hg, rest⟩
  · intro b hb; simp [Value.ownBlock] at hb
  · intro b hb'
    simp only [Value.ownBlock, Option.some.injEq] at hb'
    subst hb'
    exact hb
/-- a row's block is of the row's type -/
theorem owns_ne {w : World} {base : Nat} {e e' : TypeId} {k n p : Nat} {v : Value} {xs cs : List Value} (h : w.ownsRow base e k v n xs) (hc : Cells w p e' cs) (hne : e ≠ e') : v.ownBlock ≠ some p := by
  rcases h.2 with ⟨rfl, _⟩ | ⟨g, cap, cur, rfl, hb, hg, rest⟩
  · intro hb; simp [Value.ownBlock] at hb
  · intro hb'
    simp only [Value.ownBlock, Option.some.injEq] at hb'
    subst hb'
    unfold Cells at hc
    rw [hg] at hc
    injection hc with hc
    injection hc with _ hc
    exact hne hc

/-- a row's block behind an append: the same, or a new one -/
theorem append_block {P : Program} (w : World) (base : Nat) (t ty e : TypeId) (i : TypeInfo) (z : Value) (k bytes : Nat) (ht : P.underlying t = some (.slice e)) (hi : P.info? e = some i) (hz : i.zero = some z) (hsize : i.size = k) (hby : i.bytes = bytes)
    (hzs : z.cells.size = k) (hk : 0 < k) (v : Value) (n : Nat) (xs : List Value) (hown : w.ownsRow base e k v n xs) (a : Addr) (m c : Nat) (ys : List Value) (hl : ys.length = m * k) (hc : ∀ j u, ys[j]? = some u → w.cell? (a.add j) = some u) (h1 : ∀ u ∈ ys, u.oneCell' = true)
    (hb : (n + m) * bytes ≤ 140737488355328) (h63 : n + m ≤ maxLen) (v' : Value) (w' : World) (hrun : (Builtin.append_ #[t, t] ty #[v, .slice (some a) m c]).run P w = .ok v' w') : ∀ b, v'.ownBlock = some b → v.ownBlock = some b ∨ w.heap.size ≤ b := by
  intro b hvb
  have hsmall : n + m ≤ 9223372036854775807 := by simp only [maxLen] at h63; omega
  rcases id hown.2 with ⟨rfl, rfl⟩ | ⟨g, cap, cur, rfl, hbg, hg, hnc, hcm, hcs, htake⟩
  · obtain ⟨v2, w2, hr2, ho2, _⟩ := run_append_own (P := P) w w.heap.size t ty e i z k bytes ht hi hz hsize hby hzs hk _ 0 xs ⟨hown.1, .inl ⟨rfl, rfl⟩⟩ a m c ys hl hc h1 h63 hb (Nat.le_refl _)
    rw [hrun] at hr2
    injection hr2 with e1 _
    subst e1
    exact .inr (owns_base ho2 b hvb)
  · subst hsize hby
    by_cases hroom : n + m ≤ cap
    · have hr := run_append_room (P := P) w t ty e i ht hi g n cap cur hg a m c ys hl hc h1 hroom (by rw [hl, hcs, ← Nat.add_mul]; exact Nat.mul_le_mul_right _ hroom)
      rw [hrun] at hr
      injection hr with e1 _
      subst e1
      exact .inl hvb
    · have hr := run_append_grow (P := P) w t ty e i z ht hi hz ⟨g, 0, none⟩ n cap xs hown.1 (hown.cells (g := g) rfl) a m c ys hl hc (by omega) (by omega) (growslice_fits (by omega) hb)
      rw [hrun] at hr
      injection hr with e1 _
      subst e1
      simp only [Value.ownBlock, Option.some.injEq] at hvb
      exact .inr (by omega)
theorem run_appendR {P : Program} (w : World) (base : Nat) (t e : TypeId) (i : TypeInfo) (z : Value) (k bytes : Nat) (ht : P.underlying t = some (.slice e)) (hi : P.info? e = some i) (hz : i.zero = some z) (hsize : i.size = k) (hby : i.bytes = bytes)
    (hzs : z.cells.size = k) (hk : 0 < k) (v : Value) (n : Nat) (xs : List Value) (hown : w.ownsRow base e k v n xs) (sv : Value) (m : Nat) (ys : List Value) (hr : ReadsK k w sv m ys) (h1 : ∀ u ∈ ys, u.oneCell' = true)
    (hb : (n + m) * bytes ≤ 140737488355328) (h63 : n + m ≤ maxLen) (hbase : base ≤ w.heap.size) :
    ∃ v' w', (∀ ty, (Builtin.append_ #[t, t] ty #[v, sv]).run P w = .ok v' w') ∧ w'.ownsRow base e k v' (n + m) (xs ++ ys) ∧ w.grownBy w' v.ownBlock ∧ ∀ b, v'.ownBlock = some b → v.ownBlock = some b ∨ w.heap.size ≤ b := by
  obtain ⟨hl, a, c, rfl, hlc, _, hnil, hc⟩ := hr
  cases a with
  | none =>
    obtain rfl := hnil rfl
    obtain rfl : m = 0 := by omega
    obtain rfl : ys = [] := List.eq_nil_of_length_eq_zero (by omega)
    refine ⟨v, w, fun ty => ?_, by simpa using hown, ⟨rfl, rfl, rfl, Nat.le_refl _, fun _ _ _ => rfl⟩, fun b hb => .inl hb⟩
    exact run_append_owned_none (P := P) (w := w) base t ty e i k ht hi v n xs hown
  | some ad =>
    have hc' : ∀ j u, ys[j]? = some u → w.cell? (ad.add j) = some u := fun j u hj => by
      obtain ⟨g, o, hx, hce⟩ := hc j u hj
      cases hx
      rw [add_none]
      exact hce
    obtain ⟨v', w', hrun, ho, hg, _⟩ := run_append_own (P := P) w base t 0 e i z k bytes ht hi hz hsize hby hzs hk v n xs hown ad m c ys hl hc' h1 h63 hb hbase
    exact ⟨v', w', fun ty => hrun, ho, hg, append_block w base t 0 e i z k bytes ht hi hz hsize hby hzs hk v n xs hown ad m c ys hl hc' h1 hb h63 v' w' hrun⟩
theorem wpList_appendR {P : Program} {W : World} {ops : Array Oper} {rest : List Oper} {o : Oper} {a : Act} {Q : Exit → Act → World → Prop} (hgd : o.guard = none) (s x : Operand) (t : TypeId)
    (ho : o.op = .call { callee := .builtin .append, args := #[s, x], argTypes := #[t, t] }) (e : TypeId) (z : Value) (k bytes : Nat) (ht : P.underlying t = some (.slice e)) (hinfo : (P.info? e).map (fun i => (i.zero, i.size, i.bytes)) = some (some z, k, bytes))
    (hzs : z.cells.size = k) (h0 : 0 < k) (w : World) (hk : Keeps Nowhere w W) (base : Nat) (v : Value) (n : Nat) (xs : List Value) (hown : w.ownsRow base e k v n xs) (sv : Value) (m : Nat) (ys : List Value) (hr : ReadsK k W sv m ys) (h1 : ∀ u ∈ ys, u.oneCell' = true)
    (hb : (n + m) * bytes ≤ 140737488355328) (h63 : n + m ≤ maxLen) (hbase : base ≤ w.heap.size) (hs : a.eval s = v) (hx : a.eval x = sv)
    (h : ∀ v' w', Aside (w'.ownsRow base e k v' (n + m) (xs ++ ys)) → Aside (Keeps (fun b => v.ownBlock = some b) W w') → Aside (∀ b, v'.ownBlock = some b → v.ownBlock = some b ∨ W.heap.size ≤ b) → wpList P ops Q rest (a.put o.dst v') w') : wpList P ops Q (o :: rest) a W := by
  obtain ⟨i, hi, hz0, hz1, hz2⟩ := info_parts hinfo
  have hown' := owns_later hown hk (fun _ _ x => x)
  obtain ⟨v', w', run, o', g', b'⟩ := run_appendR (P := P) W base t e i z k bytes ht hi hz0 hz1 hz2 hzs h0 v n xs hown' sv m ys hr h1 hb h63 (Nat.le_trans hbase hk.size)
  refine wpList_appendK hgd s x t ho _ sv v' w' hs hx run (h v' w' ⟨o'⟩ ⟨grown_keeps g'⟩ ⟨b'⟩)
/-- append of one thing that lies in a new block -/
theorem readsK_new (w : World) (e : TypeId) (xs : List Value) : ReadsK xs.length (w.alloc (.cells xs.toArray e)) (.slice (some ⟨w.heap.size, 0, none⟩) 1 1) 1 xs := by
  refine ⟨by simp, _, _, rfl, Nat.le_refl _, by decide, fun h => (by cases h), fun j u hj => ⟨_, _, rfl, ?_⟩⟩
  have := (Cells.new w e xs).cell j
  rw [Nat.zero_add, this]
  exact hj
end Go.Proofs.YtbbldkldgjmmgaaGreatDoor

