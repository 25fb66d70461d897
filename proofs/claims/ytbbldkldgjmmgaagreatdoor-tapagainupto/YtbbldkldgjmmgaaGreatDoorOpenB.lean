/-
  A list of bytes among the arguments.
-/
import Derived.Test.YtbbldkldgjmmgaaGreatDoorOpen
import Derived.Test.YtbbldkldgjmmgaaGreatDoorNms
import Derived.OpenShut
import Derived.SizedLaws
namespace Go.Proofs.YtbbldkldgjmmgaaGreatDoor
open Go.ChangeShapes Go.WideShapes Go.RowKit

section
variable {H : Type} {enc : TypeId × Value → H} {w : World} {base : Nat} {spare : Nat → Bool} {held : Bool}
/-- a list of bytes with its reach -/
theorem open_bytes2 {P : Program} {t e : TypeId} {fuel : Nat} {v : Value} {x : DataW H × List MemPlace} (ht : P.underlying t = some (.slice e)) (he : P.underlying e = some (.int .u8)) (hc : P.cellsOf e = 1) (hby : P.bytesOf e = 1)
    (h : DataW.trod enc P w base spare held fuel t [v] = some x) (hw : ∀ n ∈ x.1.weights P t, n ≤ 140737488351232) :
    ∃ ns, Rd w v ns ∧ AreBytes ns ∧ ns.length ≤ 140737488351232 := by
  obtain ⟨ns, hr, _, hwf⟩ := open_ints1 ht he hc h
  refine ⟨ns, ⟨hr, ?_⟩, fun n hn => bounds_u8 (hwf n hn), ?_⟩
  · rcases open_ints ht he hc h with ⟨hcs, _⟩ | ⟨a, len, cap, zs, hcs, _⟩
    · obtain rfl : v = .slice none 0 0 := by simpa using hcs
      exact fun _ _ e => by injection e with _ _ e; exact e.symm
    · obtain rfl : v = .slice (some a) len cap := by simpa using hcs
      exact fun _ _ e => by injection e with e; cases e
  · rcases open_ints ht he hc h with ⟨hcs, _⟩ | ⟨a, len, cap, zs, hcs, _, hl, hm, hz, hx, _⟩
    · obtain rfl : v = .slice none 0 0 := by simpa using hcs
      obtain ⟨a, c, e, _, _⟩ := hr
      injection e with _ e _
      rw [List.length_map] at e
      omega
    · obtain rfl : v = .slice (some a) len cap := by simpa using hcs
      obtain ⟨a', c', e, _, _⟩ := hr
      injection e with _ e _
      rw [List.length_map] at e
      have := hw ((lits .u8 (zs.take len)).length * 1 + (lits .u8 (zs.drop len)).length * 1 : Nat) (by
        rw [hx]
        simp only [DataW.weights, ht, hby]
        rw [← Nat.add_mul]
        exact List.mem_cons_self ..)
      simp only [lits, List.length_map, List.length_take, List.length_drop] at this
      have hlz : len ≤ zs.length := by rw [hz]; split <;> omega
      omega
theorem bytes_of_trod {fuel : Nat} {v : Value} {x : DataW H × List MemPlace} (h : DataW.trod enc Tryz.prog w base spare held fuel 32 [v] = some x) (hw : ∀ n ∈ x.1.weights Tryz.prog 32, n ≤ 140737488351232) :
    ∃ ns, Rd w v ns ∧ AreBytes ns ∧ ns.length ≤ 140737488351232 :=
  open_bytes2 Tryz.underlying32 Tryz.underlying5 (by kernel_rfl) (by kernel_rfl) h hw
end
/-- a list of bytes among the arguments -/
def BytesArg (w : World) (v : Value) (ns : List Int) : Prop := Rd w v ns ∧ AreBytes ns ∧ ns.length ≤ 140737488351232
theorem bytes_open {H : Type} {enc : TypeId × Value → H} {w : World} {base : Nat} {spare : Nat → Bool} {held : Bool} {fuel : Nat} {v : Value} {x : DataW H × List MemPlace} (h : DataW.trod enc Tryz.prog w base spare held fuel 32 [v] = some x) (hw : ∀ n ∈ x.1.weights Tryz.prog 32, n ≤ 140737488351232) :
    ∃ ns, BytesArg w v ns := bytes_of_trod h hw

end Go.Proofs.YtbbldkldgjmmgaaGreatDoor
