/-
  Lists of bytes and of numbers among the arguments, with their bulk.
-/
import Derived.Test.YtnocalkloinbbaaDoorRows
import Derived.Test.YtnocalkloinbbaaDoorOpenB
import Derived.Test.YtnocalkloinbbaaDoorOpenL
import Derived.Deep.Fields
import Derived.Deep.Slices
namespace Go.Proofs.YtnocalkloinbbaaDoor
open Go.ChangeShapes Go.WideShapes Go.RowKit

section
variable {H : Type} {enc : TypeId × Value → H} {w : World} {base : Nat} {spare : Nat → Bool} {held : Bool}
/-- a list of integers is no longer than its bulk -/
theorem ints_bulk {P : Program} {t e : TypeId} {kk : IntKind} {fuel : Nat} {v : Value} {q : Option Addr} {n c : Nat} {x : DataW H × List MemPlace} (ht : P.underlying t = some (.slice e)) (he : P.underlying e = some (.int kk)) (hc : P.cellsOf e = 1)
    (h : DataW.trod enc P w base spare held fuel t [v] = some x) (hv : v = .slice q n c) : n ≤ Rows.uptoBulk x.1 := by
  rcases open_ints ht he hc h with ⟨hcs, _⟩ | ⟨a, len, cap, zs, hcs, _, hl, hm, hz, hx, _⟩
  · have hv' : v = .slice none 0 0 := by simpa using hcs
    rw [hv] at hv'
    injection hv' with _ e2 _
    omega
  · have hv' : v = .slice (some a) len cap := by simpa using hcs
    rw [hv] at hv'
    injection hv' with _ e2 _
    have hlz : len ≤ zs.length := by rw [hz]; split <;> omega
    have := bulk_parts (lits (H := H) kk (zs.take len))
    rw [hx]
    simp only [Rows.uptoBulk]
    simp only [lits, List.length_map, List.length_take] at this
    simp only [lits]
    omega
def BytesArgU (w : World) (v : Value) (ns : List Int) : Prop := Rd w v ns ∧ AreBytes ns ∧ ns.length ≤ 1048576
theorem bytes_openU {fuel : Nat} {v : Value} {x : DataW H × List MemPlace} (h : DataW.trod enc Tryd.prog w base spare held fuel 29 [v] = some x) (hw : ∀ n ∈ x.1.weights Tryd.prog 29, n ≤ 140737488351232) (hk : Rows.uptoBulk x.1 ≤ 1048576) : ∃ ns, BytesArgU w v ns := by
  obtain ⟨ns, hr, hb, _⟩ := bytes_of_trod h hw
  obtain ⟨q, c, e⟩ := hr.shape
  exact ⟨ns, hr, hb, Nat.le_trans (ints_bulk Tryd.underlying29 Tryd.underlying5 (by kernel_rfl) h e) hk⟩
theorem holds_of_reads {k : IntKind} {v : Value} {ns : List Int} (h : ReadsOff Nowhere w v (ns.map (Value.int k))) : Holds k w v ns := by
  obtain ⟨a, c, rfl, hlc, hc⟩ := h
  refine ⟨a, _, c, rfl, (List.length_map _).symm, fun i hi => ?_⟩
  rw [List.length_map] at hi
  obtain ⟨x, hx, _, hce⟩ := hc i (.int k (ns.getD i 0)) (by simp [List.getD, hi])
  exact ⟨x, hx, hce⟩
/-- a list of numbers with its bulk -/
def IntsArgU (w : World) (v : Value) (ns : List Int) : Prop := Holds .i64 w v ns ∧ ns.length ≤ 1048576
end
end Go.Proofs.YtnocalkloinbbaaDoor
