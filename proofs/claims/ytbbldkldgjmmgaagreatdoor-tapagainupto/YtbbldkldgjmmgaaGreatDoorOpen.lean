/-
  Arguments opened: slices of structs whose fields are one cell each. Of whatever program.
-/
import Derived.Test.YtbbldkldgjmmgaaGreatDoorBase
import Derived.OpenShut
import Derived.ChangeSlices
import Derived.Deep.Slices
import Derived.Deep.Fields
namespace Go.Proofs.YtbbldkldgjmmgaaGreatDoor
open Go.ChangeShapes Go.WideShapes Go.RowKit Go.Deep

section
variable {H : Type} {enc : TypeId × Value → H} {P : Program} {w : World} {base : Nat} {spare : Nat → Bool} {held : Bool}

theorem open_rows {t e : TypeId} {fs : Array Field} {fuel : Nat} {cs : List Value} {x : DataW H × List MemPlace} (ht : P.underlying t = some (.slice e)) (he : P.underlying e = some (.struct fs))
    (hone : ∀ (i : Nat) (f : Field), fs[i]? = some f → f.offset = i ∧ P.cellsOf f.type = 1) (hC : P.cellsOf e = fs.size) (h : DataW.trod enc P w base spare held fuel t cs = some x) :
    ∃ a len cap, cs = [.slice a len cap] ∧ len ≤ cap ∧ cap ≤ maxLen ∧ ∃ V : Nat → Nat → Value, ∀ i, i < len → ∀ (j : Nat) (f : Field), fs[j]? = some f →
      (∃ ad, a = some ad ∧ w.cell? (ad.add (i * fs.size + j)) = some (V i j)) ∧ ∃ n y, DataW.trod enc P w base spare held n f.type [V i j] = some y := by
  rcases open_slice ht h with ⟨rfl, _⟩ | ⟨a, len, cap, m, n, D, Pl, rfl, hb, hl, hm, hmm, rfl, hx⟩
  · exact ⟨none, 0, 0, rfl, Nat.le_refl _, Nat.zero_le _, fun _ _ => undef, fun i hi => absurd hi (by omega)⟩
  · have hlm : len ≤ m := by subst hmm; split <;> omega
    have hrow : ∀ i, ∃ cs' : List Value, i < len → (∀ (j : Nat) (f : Field), fs[j]? = some f → (w.cell? (a.add (i * fs.size + j)) = some (cs'.getD j undef)) ∧ ∃ n y, DataW.trod enc P w base spare held n f.type [cs'.getD j undef] = some y) := by
      intro i
      by_cases hi : i < len
      · obtain ⟨cs', hcs, ht'⟩ := hx i (by omega)
        refine ⟨cs', fun _ j f hf => ?_⟩
        obtain ⟨_, hlen, hcell⟩ := World.cells?_some hcs
        rw [hC] at hlen hcell
        obtain ⟨xs, n', _, _, _, hxl, hfl⟩ := DataW.trod_struct he ht'
        have hlt : j < fs.size := (Array.getElem?_eq_some_iff.1 hf).1
        obtain ⟨ho, hc1⟩ := hone j f hf
        have g := hfl j f hf
        rw [ho, hc1, take1_drop cs' j undef (by omega)] at g
        rw [List.getElem?_eq_getElem (by omega)] at g
        refine ⟨?_, n', _, g⟩
        have := hcell j hlt
        rw [add_add] at this
        rw [this, List.getElem?_eq_getElem (by omega)]
        simp [List.getD, List.getElem?_eq_getElem (show j < cs'.length by omega)]
      · exact ⟨[], fun h => absurd h hi⟩
    refine ⟨some a, len, cap, rfl, hl, hm, fun i j => (Classical.choose (hrow i)).getD j undef, fun i hi j f hf => ?_⟩
    obtain ⟨h1, h2⟩ := Classical.choose_spec (hrow i) hi j f hf
    exact ⟨⟨a, rfl, h1⟩, h2⟩

theorem open_int1 {t : TypeId} {k : IntKind} {fuel : Nat} {v : Value} {x : DataW H × List MemPlace} (ht : P.underlying t = some (.int k)) (h : DataW.trod enc P w base spare held fuel t [v] = some x) : ∃ n, v = .int k n ∧ (Lit.int k n).wf = true := by
  obtain ⟨n, hc, _, hw⟩ := DataW.trod_int ht h
  exact ⟨n, by simpa using hc, hw⟩
theorem open_ints1 {t e : TypeId} {k : IntKind} {fuel : Nat} {v : Value} {x : DataW H × List MemPlace} (ht : P.underlying t = some (.slice e)) (he : P.underlying e = some (.int k)) (hc : P.cellsOf e = 1)
    (h : DataW.trod enc P w base spare held fuel t [v] = some x) : ∃ ns : List Int, ReadsOff Nowhere w v (ns.map (Value.int k)) ∧ ns.length ≤ maxLen ∧ ∀ n ∈ ns, (Lit.int k n).wf = true := by
  rcases open_ints ht he hc h with ⟨hcs, _⟩ | ⟨a, len, cap, zs, hcs, _, hl, hm, hz, _, hcell, hwz⟩
  · obtain rfl : v = .slice none 0 0 := by simpa using hcs
    exact ⟨[], ⟨none, 0, rfl, Nat.le_refl _, fun j u hj => by simp at hj⟩, Nat.zero_le _, fun n hn => by cases hn⟩
  · obtain rfl : v = .slice (some a) len cap := by simpa using hcs
    have hlz : len ≤ zs.length := by rw [hz]; split <;> omega
    have htl : (zs.take len).length = len := by simp; omega
    refine ⟨zs.take len, ⟨some a, cap, by rw [List.length_map, htl], by rw [List.length_map, htl]; exact hl, fun j u hj => ⟨a, rfl, fun x => x, ?_⟩⟩, by omega, fun n hn => hwz n (List.mem_of_mem_take hn)⟩
    rw [List.getElem?_map, List.getElem?_take] at hj
    split at hj
    · rename_i hj'
      rw [hcell j (by omega)]
      rw [List.getElem?_eq_getElem (by omega)] at hj
      simp only [Option.map_some, Option.some.injEq] at hj
      rw [← hj]
      simp [List.getD, List.getElem?_eq_getElem (show j < zs.length by omega)]
    · cases hj
end
end Go.Proofs.YtbbldkldgjmmgaaGreatDoor
