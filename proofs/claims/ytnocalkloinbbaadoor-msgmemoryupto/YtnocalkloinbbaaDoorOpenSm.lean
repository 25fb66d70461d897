/-
  A list among the arguments, with a sum over its things. Of whatever program.
-/
import Derived.Test.YtnocalkloinbbaaDoorOpenL
namespace Go.Proofs.YtnocalkloinbbaaDoor
open Go.ChangeShapes Go.WideShapes Go.RowKit Go.Deep

theorem bulk_sum {H : Type} (D : Nat → DataW H) (f : Nat → Nat) : ∀ (l : List Nat), (∀ i ∈ l, f i ≤ Rows.uptoBulk (D i)) → (l.map f).sum ≤ Rows.uptoBulkAll (l.map D)
  | [], _ => Nat.zero_le _
  | a :: l, h => by
    have h1 := h a (by simp)
    have h2 := bulk_sum D f l (fun i hi => h i (by simp [hi]))
    simp only [List.map_cons, List.sum_cons, Rows.uptoBulkAll]
    omega
section
variable {H : Type} {enc : TypeId × Value → H} {w : World} {base : Nat} {spare : Nat → Bool} {held : Bool}
theorem open_sum {Z : Type} [Inhabited Z] {P : Program} {t e : TypeId} {k fuel : Nat} {v : Value} {x : DataW H × List MemPlace} (hk0 : 0 < k) (ht : P.underlying t = some (.slice e)) (hC : P.cellsOf e = k) (Good : Z → List Value → Prop) (sz : Z → Nat)
    (hone : ∀ fuel cs y, cs.length = k → DataW.trod enc P w base spare held fuel e cs = some y → (∀ n ∈ y.1.weights P e, n ≤ 140737488351232) → Rows.uptoBulk y.1 ≤ Rows.uptoBulk x.1 → ∃ z, Good z cs ∧ sz z ≤ Rows.uptoBulk y.1)
    (h : DataW.trod enc P w base spare held fuel t [v] = some x) (hw : ∀ n ∈ x.1.weights P t, n ≤ 140737488351232) :
    ∃ zs : List Z, zs.length ≤ Rows.uptoBulk x.1 ∧ (zs.map sz).sum ≤ Rows.uptoBulk x.1 ∧ ListAt Good k w v zs := by
  rcases open_slice ht h with ⟨hv, _⟩ | ⟨a, len, cap, m, n, D, Pl, hv, hb, hl, hm, hmm, rfl, hx⟩
  · obtain rfl : v = .slice none 0 0 := by simpa using hv
    exact ⟨[], Nat.zero_le _, Nat.zero_le _, none, 0, rfl, Nat.le_refl _, Nat.zero_le _, fun i op hi => by simp at hi⟩
  · obtain rfl : v = .slice (some a) len cap := by simpa using hv
    have hlm : len ≤ m := by subst hmm; split <;> omega
    have hop : ∀ i, ∃ z : Z, i < len → sz z ≤ Rows.uptoBulk (D i) ∧ ∃ b o cs, (some a : Option Addr) = some ⟨b, o, none⟩ ∧ Good z cs ∧ cs.length = k ∧ ∀ j, j < k → w.cell? ⟨b, o + i * k + j, none⟩ = cs[j]? := by
      intro i
      by_cases hi : i < len
      · obtain ⟨cs', hcs, ht'⟩ := hx i (by omega)
        obtain ⟨_, hlen, hcell⟩ := World.cells?_some hcs
        rw [hC] at hlen hcell
        obtain ⟨z, hz, hs⟩ := hone _ cs' _ hlen ht' (fun k hk => by
          apply hw
          simp only [DataW.weights, ht]
          refine List.mem_cons_of_mem _ (List.mem_append.2 (.inl ?_))
          exact mem_weightsAll (d := D i) (List.mem_map.2 ⟨i, List.mem_range.2 hi, rfl⟩) hk) (by
          simp only [Rows.uptoBulk]
          have := bulk_mem (d := D i) (l := (List.range len).map D) (List.mem_map.2 ⟨i, List.mem_range.2 hi, rfl⟩)
          omega)
        obtain ⟨b, o, sp⟩ := a
        obtain rfl : sp = none := by
          obtain ⟨cs0, hcs0, _⟩ := hx 0 (by omega)
          obtain ⟨_, hlen0, hcell0⟩ := World.cells?_some hcs0
          have h00 := hcell0 0 (by rw [hC]; exact hk0)
          rw [List.getElem?_eq_getElem (by rw [hlen0, hC]; exact hk0), add_add, Nat.zero_mul] at h00
          simpa [Addr.add] using World.cell?_spot h00
        refine ⟨z, fun _ => ⟨hs, b, o, cs', rfl, hz, hlen, fun j hj => ?_⟩⟩
        have := hcell j hj
        rw [add_add, add_none] at this
        rw [Nat.add_assoc]
        exact this
      · exact ⟨default, fun h => absurd h hi⟩
    refine ⟨(List.range len).map fun i => Classical.choose (hop i), ?_, ?_, some a, cap, by simp, by simpa using hl, hm, fun i op hi => ?_⟩
    · have := bulk_parts ((List.range len).map D)
      simp only [Rows.uptoBulk]
      simp only [List.length_map, List.length_range] at this ⊢
      omega
    · have := bulk_sum D (fun i => sz (Classical.choose (hop i))) (List.range len) (fun i hi => (Classical.choose_spec (hop i) (List.mem_range.1 hi)).1)
      simp only [Rows.uptoBulk]
      rw [List.map_map]
      have e : (sz ∘ fun i => Classical.choose (hop i)) = fun i => sz (Classical.choose (hop i)) := rfl
      rw [e]
      omega
    · simp only [List.getElem?_map, Option.map_eq_some_iff] at hi
      obtain ⟨j, hj, rfl⟩ := hi
      obtain ⟨hj1, hj2⟩ := List.getElem?_eq_some_iff.1 hj
      simp only [List.getElem_range] at hj2
      subst hj2
      exact (Classical.choose_spec (hop i) (by simpa using hj1)).2
end
end Go.Proofs.YtnocalkloinbbaaDoor
