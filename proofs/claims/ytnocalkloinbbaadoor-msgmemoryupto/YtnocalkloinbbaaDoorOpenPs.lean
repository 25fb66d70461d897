/-
  [][]byte among the arguments, with the sum of its pieces' lengths.
-/
import Derived.Test.YtnocalkloinbbaaDoorOpenSm
import Derived.Test.YtnocalkloinbbaaDoorOpenU
namespace Go.Proofs.YtnocalkloinbbaaDoor
open Go.ChangeShapes Go.WideShapes Go.RowKit Go.Deep

structure PcV where
  sl : Value
  ns : List Int
instance : Inhabited PcV := ⟨⟨.slice none 0 0, []⟩⟩
def PcOk (w : World) (z : PcV) (cs : List Value) : Prop := cs = [z.sl] ∧ Rd w z.sl z.ns ∧ AreBytes z.ns
section
variable {H : Type} {enc : TypeId × Value → H} {w : World} {base : Nat} {spare : Nat → Bool} {held : Bool}
def PiecesArg (w : World) (v : Value) (zs : List PcV) : Prop := zs.length ≤ 1048576 ∧ (zs.map (fun z => z.ns.length)).sum ≤ 1048576 ∧ ListAt (PcOk w) 1 w v zs
theorem pieces_open {fuel : Nat} {v : Value} {x : DataW H × List MemPlace} (h : DataW.trod enc Tryd.prog w base spare held fuel 22 [v] = some x) (hw : ∀ n ∈ x.1.weights Tryd.prog 22, n ≤ 140737488351232) (hk : Rows.uptoBulk x.1 ≤ 1048576) : ∃ zs, PiecesArg w v zs := by
  obtain ⟨zs, h1, h2, h3⟩ := open_sum (k := 1) (by decide) Tryd.underlying22 (by kernel_rfl) (PcOk w) (fun z => z.ns.length) (fun fuel cs y hl hy hw' hb => by
    obtain ⟨c0, rfl⟩ : ∃ c0, cs = [c0] := List.length_eq_one_iff.1 hl
    obtain ⟨ns, hr, hb', _⟩ := bytes_of_trod hy hw'
    obtain ⟨q, c, e⟩ := hr.shape
    exact ⟨⟨c0, ns⟩, ⟨rfl, hr, hb'⟩, ints_bulk Tryd.underlying29 Tryd.underlying5 (by kernel_rfl) hy e⟩) h hw
  exact ⟨zs, Nat.le_trans h1 hk, Nat.le_trans h2 hk, h3⟩
end
end Go.Proofs.YtnocalkloinbbaaDoor
