/-
  A slice of things among the arguments: things of k cells each, opened one by one. Of whatever program.
-/
import Derived.Test.YtnocalkloinbbaaDoorRows
import Derived.Test.YtnocalkloinbbaaDoorOpen
import Derived.Deep.Fields
import Derived.Deep.Slices
namespace Go.Proofs.YtnocalkloinbbaaDoor
open Go.ChangeShapes Go.WideShapes Go.RowKit Go.Deep

theorem bulk_one {H : Type} (d : DataW H) : 1 ≤ Rows.uptoBulk d := by
  unfold Rows.uptoBulk
  split <;> omega
theorem bulk_parts {H : Type} (l : List (DataW H)) : l.length ≤ Rows.uptoBulkAll l := by
  induction l with
  | nil => exact Nat.zero_le _
  | cons d r ih => have := bulk_one d; simp only [Rows.uptoBulkAll, List.length_cons]; omega
theorem bulk_mem {H : Type} {d : DataW H} {l : List (DataW H)} (h : d ∈ l) : Rows.uptoBulk d ≤ Rows.uptoBulkAll l := by
  induction l with
  | nil => cases h
  | cons x r ih =>
    simp only [Rows.uptoBulkAll]
    rcases List.mem_cons.1 h with rfl | h
    · omega
    · have := ih h; omega
theorem mem_weightsAll {H : Type} {P : Program} {e : TypeId} {d : DataW H} {n : Nat} : ∀ {l : List (DataW H)}, d ∈ l → n ∈ d.weights P e → n ∈ DataW.weightsAll P e l
  | [], h, _ => by cases h
  | x :: r, h, hn => by
    unfold DataW.weightsAll
    rcases List.mem_cons.1 h with rfl | h
    · exact List.mem_append.2 (.inl hn)
    · exact List.mem_append.2 (.inr (mem_weightsAll h hn))
section
variable {H : Type} {enc : TypeId × Value → H} {w : World} {base : Nat} {spare : Nat → Bool} {held : Bool}
/-- a slice's things lie one behind the other -/
def ListAt {Z : Type} (Good : Z → List Value → Prop) (k : Nat) (w : World) (v : Value) (zs : List Z) : Prop :=
  ∃ a cap, v = .slice a zs.length cap ∧ zs.length ≤ cap ∧ cap ≤ maxLen ∧ ∀ i z, zs[i]? = some z → ∃ b o cs, a = some ⟨b, o, none⟩ ∧ Good z cs ∧ cs.length = k ∧ ∀ j, j < k → w.cell? ⟨b, o + i * k + j, none⟩ = cs[j]?
theorem open_list {Z : Type} [Inhabited Z] {P : Program} {t e : TypeId} {k fuel : Nat} {v : Value} {x : DataW H × List MemPlace} (hk0 : 0 < k) (ht : P.underlying t = some (.slice e)) (hC : P.cellsOf e = k) (Good : Z → List Value → Prop)
    (hone : ∀ fuel cs y, cs.length = k → DataW.trod enc P w base spare held fuel e cs = some y → (∀ n ∈ y.1.weights P e, n ≤ 140737488351232) → Rows.uptoBulk y.1 ≤ Rows.uptoBulk x.1 → ∃ z, Good z cs)
    (h : DataW.trod enc P w base spare held fuel t [v] = some x) (hw : ∀ n ∈ x.1.weights P t, n ≤ 140737488351232) :
    ∃ zs : List Z, zs.length ≤ Rows.uptoBulk x.1 ∧ ListAt Good k w v zs := by
  rcases open_slice ht h with ⟨hv, _⟩ | ⟨a, len, cap, m, n, D, Pl, hv, hb, hl, hm, hmm, rfl, hx⟩
  · obtain rfl : v = .slice none 0 0 := by simpa using hv
    exact ⟨[], Nat.zero_le _, none, 0, rfl, Nat.le_refl _, Nat.zero_le _, fun i op hi => by simp at hi⟩
  · obtain rfl : v = .slice (some a) len cap := by simpa using hv
    have hlm : len ≤ m := by subst hmm; split <;> omega
    have hop : ∀ i, ∃ z : Z, i < len → ∃ b o cs, (some a : Option Addr) = some ⟨b, o, none⟩ ∧ Good z cs ∧ cs.length = k ∧ ∀ j, j < k → w.cell? ⟨b, o + i * k + j, none⟩ = cs[j]? := by
      intro i
      by_cases hi : i < len
      · obtain ⟨cs', hcs, ht'⟩ := hx i (by omega)
        obtain ⟨_, hlen, hcell⟩ := World.cells?_some hcs
        rw [hC] at hlen hcell
        obtain ⟨z, hz⟩ := hone _ cs' _ hlen ht' (fun k hk => by
          apply hw
          simp only [DataW.weights, ht]
          refine List.mem_cons_of_mem _ (List.mem_append.2 (.inl ?_))
          exact mem_weightsAll (d := D i) (List.mem_map.2 ⟨i, List.mem_range.2 hi, rfl⟩) hk) (by
          simp only [Rows.uptoBulk]
          have := bulk_mem (d := D i) (l := (List.range len).map D) (List.mem_map.2 ⟨i, List.mem_range.2 hi, rfl⟩)
          omega)
        obtain ⟨b, o, sp⟩ := a
        obtain rfl : sp = none := by
          obtain ⟨cs0, hcs0, _⟩ := hx 0 (by omega)
          obtain ⟨_, hlen0, hcell0⟩ := World.cells?_some hcs0
          have h00 := hcell0 0 (by rw [hC]; exact hk0)
          rw [List.getElem?_eq_getElem (by rw [hlen0, hC]; exact hk0), add_add, Nat.zero_mul] at h00
          simpa [Addr.add] using World.cell?_spot h00
        refine ⟨z, fun _ => ⟨b, o, cs', rfl, hz, hlen, fun j hj => ?_⟩⟩
        have := hcell j hj
        rw [add_add, add_none] at this
        rw [Nat.add_assoc]
        exact this
      · exact ⟨default, fun h => absurd h hi⟩
    refine ⟨(List.range len).map fun i => Classical.choose (hop i), ?_, some a, cap, by simp, by simpa using hl, hm, fun i op hi => ?_⟩
    · have := bulk_parts ((List.range len).map D)
      simp only [Rows.uptoBulk]
      simp only [List.length_map, List.length_range] at this ⊢
      omega
    · simp only [List.getElem?_map, Option.map_eq_some_iff] at hi
      obtain ⟨j, hj, rfl⟩ := hi
      obtain ⟨hj1, hj2⟩ := List.getElem?_eq_some_iff.1 hj
      simp only [List.getElem_range] at hj2
      subst hj2
      exact Classical.choose_spec (hop i) (by simpa using hj1)
/-- it stays where the blocks that are there stay -/
theorem ListAt.at {Z : Type} {Good : Z → List Value → Prop} {k : Nat} {v : Value} {zs : List Z} {w' : World} (h : ListAt Good k w v zs) (hb : Below w.heap.size w w') : ListAt Good k w' v zs := by
  obtain ⟨a, cap, he, h1, h2, h3⟩ := h
  refine ⟨a, cap, he, h1, h2, fun i z hi => ?_⟩
  obtain ⟨b, o, cs, ha, hg, hl, hc⟩ := h3 i z hi
  refine ⟨b, o, cs, ha, hg, hl, fun j hj => ?_⟩
  have h4 := hc j hj
  rw [List.getElem?_eq_getElem (by omega)] at h4 ⊢
  rw [hb.cell (World.block_lt_of_cell? w _ h4)]
  exact h4
end
end Go.Proofs.YtnocalkloinbbaaDoor
