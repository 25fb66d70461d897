import Derived.Test.YtjhjhmhhnifgmaaDoorBase
import Derived.OpenShut
import Derived.ChangeSlices
import Derived.Deep.Slices
import Derived.Deep.Fields
import Derived.Test.YtjhjhmhhnifgmaaDoorRows
import Derived.Test.YtjhjhmhhnifgmaaDoorOwnB
import Derived.SizedLaws
/-
  Arguments opened: slices of structs whose fields are one cell each. Of whatever program.
-/
namespace Go.Proofs.YtjhjhmhhnifgmaaDoor
open Go.ChangeShapes Go.WideShapes Go.RowKit Go.Deep

section
variable {H : Type} {enc : TypeId × Value → H} {P : Program} {w : World} {base : Nat} {spare : Nat → Bool} {held : Bool}

theorem open_rows {t e : TypeId} {fs : Array Field} {fuel : Nat} {cs : List Value} {x : DataW H × List MemPlace} (ht : P.underlying t = some (.slice e)) (he : P.underlying e = some (.struct fs))
    (hone : ∀ (i : Nat) (f : Field), fs[i]? = some f → f.offset = i ∧ P.cellsOf f.type = 1) (hC : P.cellsOf e = fs.size) (h : DataW.trod enc P w base spare held fuel t cs = some x) :
    ∃ a len cap, cs = [.slice a len cap] ∧ len ≤ cap ∧ cap ≤ maxLen ∧ ∃ V : Nat → Nat → Value, ∀ i, i < len → ∀ (j : Nat) (f : Field), fs[j]? = some f →
      (∃ ad, a = some ad ∧ w.cell? (ad.add (i * fs.size + j)) = some (V i j)) ∧ ∃ n y, DataW.trod enc P w base spare held n f.type [V i j] = some y := by
  rcases open_slice ht h with ⟨rfl, _⟩ | ⟨a, len, cap, m, n, D, Pl, rfl, hb, hl, hm, hmm, rfl, hx⟩
  · exact ⟨none, 0, 0, rfl, Nat.le_refl _, Nat.zero_le _, fun _ _ => undef, fun i hi => absurd hi (by omega)⟩
  · have hlm : len ≤ m := by subst hmm; split <;> omega
    have hrow : ∀ i, ∃ cs' : List Value, i < len → (∀ (j : Nat) (f : Field), fs[j]? = some f → (w.cell? (a.add (i * fs.size + j)) = some (cs'.getD j undef)) ∧ ∃ n y, DataW.trod enc P w base spare held n f.type [cs'.getD j undef] = some y) := by
      intro i
      by_cases hi : i < len
      · obtain ⟨cs', hcs, ht'⟩ := hx i (by omega)
        refine ⟨cs', fun _ j f hf => ?_⟩
        obtain ⟨_, hlen, hcell⟩ := World.cells?_some hcs
        rw [hC] at hlen hcell
        obtain ⟨xs, n', _, _, _, hxl, hfl⟩ := DataW.trod_struct he ht'
        have hlt : j < fs.size := (Array.getElem?_eq_some_iff.1 hf).1
        obtain ⟨ho, hc1⟩ := hone j f hf
        have g := hfl j f hf
        rw [ho, hc1, take1_drop cs' j undef (by omega)] at g
        rw [List.getElem?_eq_getElem (by omega)] at g
        refine ⟨?_, n', _, g⟩
        have := hcell j hlt
        rw [add_add] at this
        rw [this, List.getElem?_eq_getElem (by omega)]
        simp [List.getD, List.getElem?_eq_getElem (show j < cs'.length by omega)]
      · exact ⟨[], fun h => absurd h hi⟩
    refine ⟨some a, len, cap, rfl, hl, hm, fun i j => (Classical.choose (hrow i)).getD j undef, fun i hi j f hf => ?_⟩
    obtain ⟨h1, h2⟩ := Classical.choose_spec (hrow i) hi j f hf
    exact ⟨⟨a, rfl, h1⟩, h2⟩

theorem open_int1 {t : TypeId} {k : IntKind} {fuel : Nat} {v : Value} {x : DataW H × List MemPlace} (ht : P.underlying t = some (.int k)) (h : DataW.trod enc P w base spare held fuel t [v] = some x) : ∃ n, v = .int k n ∧ (Lit.int k n).wf = true := by
  obtain ⟨n, hc, _, hw⟩ := DataW.trod_int ht h
  exact ⟨n, by simpa using hc, hw⟩
theorem open_ints1 {t e : TypeId} {k : IntKind} {fuel : Nat} {v : Value} {x : DataW H × List MemPlace} (ht : P.underlying t = some (.slice e)) (he : P.underlying e = some (.int k)) (hc : P.cellsOf e = 1)
    (h : DataW.trod enc P w base spare held fuel t [v] = some x) : ∃ ns : List Int, ReadsOff Nowhere w v (ns.map (Value.int k)) ∧ ns.length ≤ maxLen ∧ ∀ n ∈ ns, (Lit.int k n).wf = true := by
  rcases open_ints ht he hc h with ⟨hcs, _⟩ | ⟨a, len, cap, zs, hcs, _, hl, hm, hz, _, hcell, hwz⟩
  · obtain rfl : v = .slice none 0 0 := by simpa using hcs
    exact ⟨[], ⟨none, 0, rfl, Nat.le_refl _, fun j u hj => by simp at hj⟩, Nat.zero_le _, fun n hn => by cases hn⟩
  · obtain rfl : v = .slice (some a) len cap := by simpa using hcs
    have hlz : len ≤ zs.length := by rw [hz]; split <;> omega
    have htl : (zs.take len).length = len := by simp; omega
    refine ⟨zs.take len, ⟨some a, cap, by rw [List.length_map, htl], by rw [List.length_map, htl]; exact hl, fun j u hj => ⟨a, rfl, fun x => x, ?_⟩⟩, by omega, fun n hn => hwz n (List.mem_of_mem_take hn)⟩
    rw [List.getElem?_map, List.getElem?_take] at hj
    split at hj
    · rename_i hj'
      rw [hcell j (by omega)]
      rw [List.getElem?_eq_getElem (by omega)] at hj
      simp only [Option.map_some, Option.some.injEq] at hj
      rw [← hj]
      simp [List.getD, List.getElem?_eq_getElem (show j < zs.length by omega)]
    · cases hj
end
end Go.Proofs.YtjhjhmhhnifgmaaDoor

/-
  A slice of things among the arguments: things of k cells each, opened one by one. Of whatever program.
-/
namespace Go.Proofs.YtjhjhmhhnifgmaaDoor
open Go.ChangeShapes Go.WideShapes Go.RowKit Go.Deep

theorem bulk_one {H : Type} (d : DataW H) : 1 ≤ Rows.uptoBulk d := by
  unfold Rows.uptoBulk
  split <;> omega
theorem bulk_parts {H : Type} (l : List (DataW H)) : l.length ≤ Rows.uptoBulkAll l := by
  induction l with
  | nil => exact Nat.zero_le _
  | cons d r ih => have := bulk_one d; simp only [Rows.uptoBulkAll, List.length_cons]; omega
theorem bulk_mem {H : Type} {d : DataW H} {l : List (DataW H)} (h : d ∈ l) : Rows.uptoBulk d ≤ Rows.uptoBulkAll l := by
  induction l with
  | nil => cases h
  | cons x r ih =>
    simp only [Rows.uptoBulkAll]
    rcases List.mem_cons.1 h with rfl | h
    · omega
    · have := ih h; omega
theorem mem_weightsAll {H : Type} {P : Program} {e : TypeId} {d : DataW H} {n : Nat} : ∀ {l : List (DataW H)}, d ∈ l → n ∈ d.weights P e → n ∈ DataW.weightsAll P e l
  | [], h, _ => by cases h
  | x :: r, h, hn => by
    unfold DataW.weightsAll
    rcases List.mem_cons.1 h with rfl | h
    · exact List.mem_append.2 (.inl hn)
    · exact List.mem_append.2 (.inr (mem_weightsAll h hn))
section
variable {H : Type} {enc : TypeId × Value → H} {w : World} {base : Nat} {spare : Nat → Bool} {held : Bool}
/-- a slice's things lie one behind the other -/
def ListAt {Z : Type} (Good : Z → List Value → Prop) (k : Nat) (w : World) (v : Value) (zs : List Z) : Prop :=
  ∃ a cap, v = .slice a zs.length cap ∧ zs.length ≤ cap ∧ cap ≤ maxLen ∧ ∀ i z, zs[i]? = some z → ∃ b o cs, a = some ⟨b, o, none⟩ ∧ Good z cs ∧ cs.length = k ∧ ∀ j, j < k → w.cell? ⟨b, o + i * k + j, none⟩ = cs[j]?
theorem open_list {Z : Type} [Inhabited Z] {P : Program} {t e : TypeId} {k fuel : Nat} {v : Value} {x : DataW H × List MemPlace} (hk0 : 0 < k) (ht : P.underlying t = some (.slice e)) (hC : P.cellsOf e = k) (Good : Z → List Value → Prop)
    (hone : ∀ fuel cs y, cs.length = k → DataW.trod enc P w base spare held fuel e cs = some y → (∀ n ∈ y.1.weights P e, n ≤ 140737488351232) → Rows.uptoBulk y.1 ≤ Rows.uptoBulk x.1 → ∃ z, Good z cs)
    (h : DataW.trod enc P w base spare held fuel t [v] = some x) (hw : ∀ n ∈ x.1.weights P t, n ≤ 140737488351232) :
    ∃ zs : List Z, zs.length ≤ Rows.uptoBulk x.1 ∧ ListAt Good k w v zs := by
  rcases open_slice ht h with ⟨hv, _⟩ | ⟨a, len, cap, m, n, D, Pl, hv, hb, hl, hm, hmm, rfl, hx⟩
  · obtain rfl : v = .slice none 0 0 := by simpa using hv
    exact ⟨[], Nat.zero_le _, none, 0, rfl, Nat.le_refl _, Nat.zero_le _, fun i op hi => by simp at hi⟩
  · obtain rfl : v = .slice (some a) len cap := by simpa using hv
    have hlm : len ≤ m := by subst hmm; split <;> omega
    have hop : ∀ i, ∃ z : Z, i < len → ∃ b o cs, (some a : Option Addr) = some ⟨b, o, none⟩ ∧ Good z cs ∧ cs.length = k ∧ ∀ j, j < k → w.cell? ⟨b, o + i * k + j, none⟩ = cs[j]? := by
      intro i
      by_cases hi : i < len
      · obtain ⟨cs', hcs, ht'⟩ := hx i (by omega)
        obtain ⟨_, hlen, hcell⟩ := World.cells?_some hcs
        rw [hC] at hlen hcell
        obtain ⟨z, hz⟩ := hone _ cs' _ hlen ht' (fun k hk => by
          apply hw
          simp only [DataW.weights, ht]
          refine List.mem_cons_of_mem _ (List.mem_append.2 (.inl ?_))
          exact mem_weightsAll (d := D i) (List.mem_map.2 ⟨i, List.mem_range.2 hi, rfl⟩) hk) (by
          simp only [Rows.uptoBulk]
          have := bulk_mem (d := D i) (l := (List.range len).map D) (List.mem_map.2 ⟨i, List.mem_range.2 hi, rfl⟩)
          omega)
        obtain ⟨b, o, sp⟩ := a
        obtain rfl : sp = none := by
          obtain ⟨cs0, hcs0, _⟩ := hx 0 (by omega)
          obtain ⟨_, hlen0, hcell0⟩ := World.cells?_some hcs0
          have h00 := hcell0 0 (by rw [hC]; exact hk0)
          rw [List.getElem?_eq_getElem (by rw [hlen0, hC]; exact hk0), add_add, Nat.zero_mul] at h00
          simpa [Addr.add] using World.cell?_spot h00
        refine ⟨z, fun _ => ⟨b, o, cs', rfl, hz, hlen, fun j hj => ?_⟩⟩
        have := hcell j hj
        rw [add_add, add_none] at this
        rw [Nat.add_assoc]
        exact this
      · exact ⟨default, fun h => absurd h hi⟩
    refine ⟨(List.range len).map fun i => Classical.choose (hop i), ?_, some a, cap, by simp, by simpa using hl, hm, fun i op hi => ?_⟩
    · have := bulk_parts ((List.range len).map D)
      simp only [Rows.uptoBulk]
      simp only [List.length_map, List.length_range] at this ⊢
      omega
    · simp only [List.getElem?_map, Option.map_eq_some_iff] at hi
      obtain ⟨j, hj, rfl⟩ := hi
      obtain ⟨hj1, hj2⟩ := List.getElem?_eq_some_iff.1 hj
      simp only [List.getElem_range] at hj2
      subst hj2
      exact Classical.choose_spec (hop i) (by simpa using hj1)
/-- it stays where the blocks that are there stay -/
theorem ListAt.at {Z : Type} {Good : Z → List Value → Prop} {k : Nat} {v : Value} {zs : List Z} {w' : World} (h : ListAt Good k w v zs) (hb : Below w.heap.size w w') : ListAt Good k w' v zs := by
  obtain ⟨a, cap, he, h1, h2, h3⟩ := h
  refine ⟨a, cap, he, h1, h2, fun i z hi => ?_⟩
  obtain ⟨b, o, cs, ha, hg, hl, hc⟩ := h3 i z hi
  refine ⟨b, o, cs, ha, hg, hl, fun j hj => ?_⟩
  have h4 := hc j hj
  rw [List.getElem?_eq_getElem (by omega)] at h4 ⊢
  rw [hb.cell (World.block_lt_of_cell? w _ h4)]
  exact h4
end
end Go.Proofs.YtjhjhmhhnifgmaaDoor

/-
  A list among the arguments, with a sum over its things. Of whatever program.
-/
namespace Go.Proofs.YtjhjhmhhnifgmaaDoor
open Go.ChangeShapes Go.WideShapes Go.RowKit Go.Deep

theorem bulk_sum {H : Type} (D : Nat → DataW H) (f : Nat → Nat) : ∀ (l : List Nat), (∀ i ∈ l, f i ≤ Rows.uptoBulk (D i)) → (l.map f).sum ≤ Rows.uptoBulkAll (l.map D)
  | [], _ => Nat.zero_le _
  | a :: l, h => by
    have h1 := h a (by simp)
    have h2 := bulk_sum D f l (fun i hi => h i (by simp [hi]))
    simp only [List.map_cons, List.sum_cons, Rows.uptoBulkAll]
    omega
section
variable {H : Type} {enc : TypeId × Value → H} {w : World} {base : Nat} {spare : Nat → Bool} {held : Bool}
theorem open_sum {Z : Type} [Inhabited Z] {P : Program} {t e : TypeId} {k fuel : Nat} {v : Value} {x : DataW H × List MemPlace} (hk0 : 0 < k) (ht : P.underlying t = some (.slice e)) (hC : P.cellsOf e = k) (Good : Z → List Value → Prop) (sz : Z → Nat)
    (hone : ∀ fuel cs y, cs.length = k → DataW.trod enc P w base spare held fuel e cs = some y → (∀ n ∈ y.1.weights P e, n ≤ 140737488351232) → Rows.uptoBulk y.1 ≤ Rows.uptoBulk x.1 → ∃ z, Good z cs ∧ sz z ≤ Rows.uptoBulk y.1)
    (h : DataW.trod enc P w base spare held fuel t [v] = some x) (hw : ∀ n ∈ x.1.weights P t, n ≤ 140737488351232) :
    ∃ zs : List Z, zs.length ≤ Rows.uptoBulk x.1 ∧ (zs.map sz).sum ≤ Rows.uptoBulk x.1 ∧ ListAt Good k w v zs := by
  rcases open_slice ht h with ⟨hv, _⟩ | ⟨a, len, cap, m, n, D, Pl, hv, hb, hl, hm, hmm, rfl, hx⟩
  · obtain rfl : v = .slice none 0 0 := by simpa using hv
    exact ⟨[], Nat.zero_le _, Nat.zero_le _, none, 0, rfl, Nat.le_refl _, Nat.zero_le _, fun i op hi => by simp at hi⟩
  · obtain rfl : v = .slice (some a) len cap := by simpa using hv
    have hlm : len ≤ m := by subst hmm; split <;> omega
    have hop : ∀ i, ∃ z : Z, i < len → sz z ≤ Rows.uptoBulk (D i) ∧ ∃ b o cs, (some a : Option Addr) = some ⟨b, o, none⟩ ∧ Good z cs ∧ cs.length = k ∧ ∀ j, j < k → w.cell? ⟨b, o + i * k + j, none⟩ = cs[j]? := by
      intro i
      by_cases hi : i < len
      · obtain ⟨cs', hcs, ht'⟩ := hx i (by omega)
        obtain ⟨_, hlen, hcell⟩ := World.cells?_some hcs
        rw [hC] at hlen hcell
        obtain ⟨z, hz, hs⟩ := hone _ cs' _ hlen ht' (fun k hk => by
          apply hw
          simp only [DataW.weights, ht]
          refine List.mem_cons_of_mem _ (List.mem_append.2 (.inl ?_))
          exact mem_weightsAll (d := D i) (List.mem_map.2 ⟨i, List.mem_range.2 hi, rfl⟩) hk) (by
          simp only [Rows.uptoBulk]
          have := bulk_mem (d := D i) (l := (List.range len).map D) (List.mem_map.2 ⟨i, List.mem_range.2 hi, rfl⟩)
          omega)
        obtain ⟨b, o, sp⟩ := a
        obtain rfl : sp = none := by
          obtain ⟨cs0, hcs0, _⟩ := hx 0 (by omega)
          obtain ⟨_, hlen0, hcell0⟩ := World.cells?_some hcs0
          have h00 := hcell0 0 (by rw [hC]; exact hk0)
          rw [List.getElem?_eq_getElem (by rw [hlen0, hC]; exact hk0), add_add, Nat.zero_mul] at h00
          simpa [Addr.add] using World.cell?_spot h00
        refine ⟨z, fun _ => ⟨hs, b, o, cs', rfl, hz, hlen, fun j hj => ?_⟩⟩
        have := hcell j hj
        rw [add_add, add_none] at this
        rw [Nat.add_assoc]
        exact this
      · exact ⟨default, fun h => absurd h hi⟩
    refine ⟨(List.range len).map fun i => Classical.choose (hop i), ?_, ?_, some a, cap, by simp, by simpa using hl, hm, fun i op hi => ?_⟩
    · have := bulk_parts ((List.range len).map D)
      simp only [Rows.uptoBulk]
      simp only [List.length_map, List.length_range] at this ⊢
      omega
    · have := bulk_sum D (fun i => sz (Classical.choose (hop i))) (List.range len) (fun i hi => (Classical.choose_spec (hop i) (List.mem_range.1 hi)).1)
      simp only [Rows.uptoBulk]
      rw [List.map_map]
      have e : (sz ∘ fun i => Classical.choose (hop i)) = fun i => sz (Classical.choose (hop i)) := rfl
      rw [e]
      omega
    · simp only [List.getElem?_map, Option.map_eq_some_iff] at hi
      obtain ⟨j, hj, rfl⟩ := hi
      obtain ⟨hj1, hj2⟩ := List.getElem?_eq_some_iff.1 hj
      simp only [List.getElem_range] at hj2
      subst hj2
      exact (Classical.choose_spec (hop i) (by simpa using hj1)).2
end
end Go.Proofs.YtjhjhmhhnifgmaaDoor

/-
  A list of bytes among the arguments.
-/
namespace Go.Proofs.YtjhjhmhhnifgmaaDoor
open Go.ChangeShapes Go.WideShapes Go.RowKit

section
variable {H : Type} {enc : TypeId × Value → H} {w : World} {base : Nat} {spare : Nat → Bool} {held : Bool}
/-- a list of bytes with its reach -/
theorem open_bytes2 {P : Program} {t e : TypeId} {fuel : Nat} {v : Value} {x : DataW H × List MemPlace} (ht : P.underlying t = some (.slice e)) (he : P.underlying e = some (.int .u8)) (hc : P.cellsOf e = 1) (hby : P.bytesOf e = 1)
    (h : DataW.trod enc P w base spare held fuel t [v] = some x) (hw : ∀ n ∈ x.1.weights P t, n ≤ 140737488351232) :
    ∃ ns, Rd w v ns ∧ AreBytes ns ∧ ns.length ≤ 140737488351232 := by
  obtain ⟨ns, hr, _, hwf⟩ := open_ints1 ht he hc h
  refine ⟨ns, ⟨hr, ?_⟩, fun n hn => bounds_u8 (hwf n hn), ?_⟩
  · rcases open_ints ht he hc h with ⟨hcs, _⟩ | ⟨a, len, cap, zs, hcs, _⟩
    · obtain rfl : v = .slice none 0 0 := by simpa using hcs
      exact fun _ _ e => by injection e with _ _ e; exact e.symm
    · obtain rfl : v = .slice (some a) len cap := by simpa using hcs
      exact fun _ _ e => by injection e with e; cases e
  · rcases open_ints ht he hc h with ⟨hcs, _⟩ | ⟨a, len, cap, zs, hcs, _, hl, hm, hz, hx, _⟩
    · obtain rfl : v = .slice none 0 0 := by simpa using hcs
      obtain ⟨a, c, e, _, _⟩ := hr
      injection e with _ e _
      rw [List.length_map] at e
      omega
    · obtain rfl : v = .slice (some a) len cap := by simpa using hcs
      obtain ⟨a', c', e, _, _⟩ := hr
      injection e with _ e _
      rw [List.length_map] at e
      have := hw ((lits .u8 (zs.take len)).length * 1 + (lits .u8 (zs.drop len)).length * 1 : Nat) (by
        rw [hx]
        simp only [DataW.weights, ht, hby]
        rw [← Nat.add_mul]
        exact List.mem_cons_self ..)
      simp only [lits, List.length_map, List.length_take, List.length_drop] at this
      have hlz : len ≤ zs.length := by rw [hz]; split <;> omega
      omega
theorem bytes_of_trod {fuel : Nat} {v : Value} {x : DataW H × List MemPlace} (h : DataW.trod enc Tryd.prog w base spare held fuel 29 [v] = some x) (hw : ∀ n ∈ x.1.weights Tryd.prog 29, n ≤ 140737488351232) :
    ∃ ns, Rd w v ns ∧ AreBytes ns ∧ ns.length ≤ 140737488351232 :=
  open_bytes2 Tryd.underlying29 Tryd.underlying5 (by kernel_rfl) (by kernel_rfl) h hw
end
/-- a list of bytes among the arguments -/
def BytesArg (w : World) (v : Value) (ns : List Int) : Prop := Rd w v ns ∧ AreBytes ns ∧ ns.length ≤ 140737488351232
theorem bytes_open {H : Type} {enc : TypeId × Value → H} {w : World} {base : Nat} {spare : Nat → Bool} {held : Bool} {fuel : Nat} {v : Value} {x : DataW H × List MemPlace} (h : DataW.trod enc Tryd.prog w base spare held fuel 29 [v] = some x) (hw : ∀ n ∈ x.1.weights Tryd.prog 29, n ≤ 140737488351232) :
    ∃ ns, BytesArg w v ns := bytes_of_trod h hw

end Go.Proofs.YtjhjhmhhnifgmaaDoor

/-
  Lists of bytes and of numbers among the arguments, with their bulk.
-/
namespace Go.Proofs.YtjhjhmhhnifgmaaDoor
open Go.ChangeShapes Go.WideShapes Go.RowKit

section
variable {H : Type} {enc : TypeId × Value → H} {w : World} {base : Nat} {spare : Nat → Bool} {held : Bool}
/-- a list of integers is no longer than its bulk -/
theorem ints_bulk {P : Program} {t e : TypeId} {kk : IntKind} {fuel : Nat} {v : Value} {q : Option Addr} {n c : Nat} {x : DataW H × List MemPlace} (ht : P.underlying t = some (.slice e)) (he : P.underlying e = some (.int kk)) (hc : P.cellsOf e = 1)
    (h : DataW.trod enc P w base spare held fuel t [v] = some x) (hv : v = .slice q n c) : n ≤ Rows.uptoBulk x.1 := by
  rcases open_ints ht he hc h with ⟨hcs, _⟩ | ⟨a, len, cap, zs, hcs, _, hl, hm, hz, hx, _⟩
  · have hv' : v = .slice none 0 0 := by simpa using hcs
    rw [hv] at hv'
    injection hv' with _ e2 _
    omega
  · have hv' : v = .slice (some a) len cap := by simpa using hcs
    rw [hv] at hv'
    injection hv' with _ e2 _
    have hlz : len ≤ zs.length := by rw [hz]; split <;> omega
    have := bulk_parts (lits (H := H) kk (zs.take len))
    rw [hx]
    simp only [Rows.uptoBulk]
    simp only [lits, List.length_map, List.length_take] at this
    simp only [lits]
    omega
def BytesArgU (w : World) (v : Value) (ns : List Int) : Prop := Rd w v ns ∧ AreBytes ns ∧ ns.length ≤ 1048576
theorem bytes_openU {fuel : Nat} {v : Value} {x : DataW H × List MemPlace} (h : DataW.trod enc Tryd.prog w base spare held fuel 29 [v] = some x) (hw : ∀ n ∈ x.1.weights Tryd.prog 29, n ≤ 140737488351232) (hk : Rows.uptoBulk x.1 ≤ 1048576) : ∃ ns, BytesArgU w v ns := by
  obtain ⟨ns, hr, hb, _⟩ := bytes_of_trod h hw
  obtain ⟨q, c, e⟩ := hr.shape
  exact ⟨ns, hr, hb, Nat.le_trans (ints_bulk Tryd.underlying29 Tryd.underlying5 (by kernel_rfl) h e) hk⟩
theorem holds_of_reads {k : IntKind} {v : Value} {ns : List Int} (h : ReadsOff Nowhere w v (ns.map (Value.int k))) : Holds k w v ns := by
  obtain ⟨a, c, rfl, hlc, hc⟩ := h
  refine ⟨a, _, c, rfl, (List.length_map _).symm, fun i hi => ?_⟩
  rw [List.length_map] at hi
  obtain ⟨x, hx, _, hce⟩ := hc i (.int k (ns.getD i 0)) (by simp [List.getD, hi])
  exact ⟨x, hx, hce⟩
/-- a list of numbers with its bulk -/
def IntsArgU (w : World) (v : Value) (ns : List Int) : Prop := Holds .i64 w v ns ∧ ns.length ≤ 1048576
end
end Go.Proofs.YtjhjhmhhnifgmaaDoor

/-
  [][]byte among the arguments, with the sum of its pieces' lengths.
-/
namespace Go.Proofs.YtjhjhmhhnifgmaaDoor
open Go.ChangeShapes Go.WideShapes Go.RowKit Go.Deep

structure PcV where
  sl : Value
  ns : List Int
instance : Inhabited PcV := ⟨⟨.slice none 0 0, []⟩⟩
def PcOk (w : World) (z : PcV) (cs : List Value) : Prop := cs = [z.sl] ∧ Rd w z.sl z.ns ∧ AreBytes z.ns
section
variable {H : Type} {enc : TypeId × Value → H} {w : World} {base : Nat} {spare : Nat → Bool} {held : Bool}
def PiecesArg (w : World) (v : Value) (zs : List PcV) : Prop := zs.length ≤ 1048576 ∧ (zs.map (fun z => z.ns.length)).sum ≤ 1048576 ∧ ListAt (PcOk w) 1 w v zs
theorem pieces_open {fuel : Nat} {v : Value} {x : DataW H × List MemPlace} (h : DataW.trod enc Tryd.prog w base spare held fuel 22 [v] = some x) (hw : ∀ n ∈ x.1.weights Tryd.prog 22, n ≤ 140737488351232) (hk : Rows.uptoBulk x.1 ≤ 1048576) : ∃ zs, PiecesArg w v zs := by
  obtain ⟨zs, h1, h2, h3⟩ := open_sum (k := 1) (by decide) Tryd.underlying22 (by kernel_rfl) (PcOk w) (fun z => z.ns.length) (fun fuel cs y hl hy hw' hb => by
    obtain ⟨c0, rfl⟩ : ∃ c0, cs = [c0] := List.length_eq_one_iff.1 hl
    obtain ⟨ns, hr, hb', _⟩ := bytes_of_trod hy hw'
    obtain ⟨q, c, e⟩ := hr.shape
    exact ⟨⟨c0, ns⟩, ⟨rfl, hr, hb'⟩, ints_bulk Tryd.underlying29 Tryd.underlying5 (by kernel_rfl) hy e⟩) h hw
  exact ⟨zs, Nat.le_trans h1 hk, Nat.le_trans h2 hk, h3⟩
end
end Go.Proofs.YtjhjhmhhnifgmaaDoor

