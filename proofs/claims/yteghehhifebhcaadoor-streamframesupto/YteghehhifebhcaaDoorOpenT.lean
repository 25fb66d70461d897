/-
  api.Config among the arguments; a script of law 10's Ops with its bulk.
-/
import Derived.Test.YteghehhifebhcaaDoorOpenS
import Derived.Lib.SmallJoins
import Derived.OpenShut
import Derived.SizedLaws
namespace Go.Proofs.YteghehhifebhcaaDoor
open Go.ChangeShapes Go.WideShapes Go.RowKit Go.Deep

section
variable {H : Type} {enc : TypeId × Value → H} {w : World} {base : Nat} {spare : Nat → Bool} {held : Bool}
def CfgArg (_w : World) (v : Value) (z : Cf) : Prop := v = z.val ∧ z.ok
set_option maxRecDepth 100000 in
theorem cfg_open {r : Reach} {b0 : Nat} {v : Value} {d : DataW H} {p : List MemPlace} (hv : Value.okWide Tryd.prog w r b0 23 v)
    (h : DataW.Trod enc Tryd.prog w base spare held 23 v d p) (_hw : ∀ n ∈ d.weights Tryd.prog 23, n ≤ 140737488351232) : ∃ z, CfgArg w v z := by
  have hC : Tryd.prog.cellsOf 23 = 8 := by kernel_rfl
  obtain ⟨cs, rfl, hsz⟩ := okWide_struct Tryd.underlying23 hv
  obtain ⟨l⟩ := cs
  obtain ⟨fuel, hf⟩ := h
  have hl : l.length = 8 := by rw [hC] at hsz; simpa using hsz
  have hf' : DataW.trod enc Tryd.prog w base spare held fuel 23 l = some (d, p) := hf
  obtain ⟨z, e, hz⟩ := cfg_of_trod hl hf'
  subst e
  exact ⟨z, rfl, hz⟩
def Ops10ArgU (w : World) (v : Value) (zs : List OpV10) : Prop := zs.length ≤ 1048576 ∧ ListAt (Op10Ok w) 14 w v zs
theorem ops10_openU {fuel : Nat} {v : Value} {x : DataW H × List MemPlace} (h : DataW.trod enc Tryd.prog w base spare held fuel 54 [v] = some x) (hw : ∀ n ∈ x.1.weights Tryd.prog 54, n ≤ 140737488351232) (hk : Rows.uptoBulk x.1 ≤ 1048576) : ∃ zs, Ops10ArgU w v zs := by
  obtain ⟨zs, h1, h2⟩ := open_list (k := 14) (by decide) Tryd.underlying54 (by kernel_rfl) (Op10Ok w) (fun fuel cs y hl hy hw' _ => op10_of_trod hl hy hw') h hw
  exact ⟨zs, Nat.le_trans h1 hk, h2⟩
end
end Go.Proofs.YteghehhifebhcaaDoor
