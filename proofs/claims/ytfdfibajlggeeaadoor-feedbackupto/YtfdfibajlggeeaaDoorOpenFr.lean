/-
  []api.Frame among the arguments, with its bulk.
-/
import Derived.Test.YtfdfibajlggeeaaDoorOpenO
namespace Go.Proofs.YtfdfibajlggeeaaDoor
open Go.ChangeShapes Go.WideShapes Go.RowKit Go.Deep

structure FrV where
  h : HV
  sl : Value
  ns : List Int
instance : Inhabited FrV := ⟨⟨⟨0, 0, 0, 0, 0⟩, .slice none 0 0, []⟩⟩
def FrV.cells (z : FrV) : List Value := [.int .u8 z.h.v, .int .u8 z.h.t, .int .u16 z.h.f, .int .u32 z.h.s, .int .u32 z.h.l, z.sl]
/-- what is known of a frame -/
def FrArgOk (w : World) (bulk : Nat) (z : FrV) (cs : List Value) : Prop := cs = z.cells ∧ z.h.ok ∧ Rd w z.sl z.ns ∧ AreBytes z.ns ∧ z.ns.length ≤ 140737488351232 ∧ z.ns.length ≤ bulk
section
variable {H : Type} {enc : TypeId × Value → H} {w : World} {base : Nat} {spare : Nat → Bool} {held : Bool}
def FramesArgU (w : World) (v : Value) (zs : List FrV) : Prop := zs.length ≤ 1048576 ∧ ListAt (FrArgOk w 1048576) 6 w v zs
theorem frames_openU {fuel : Nat} {v : Value} {x : DataW H × List MemPlace} (h : DataW.trod enc Tryd.prog w base spare held fuel 22 [v] = some x) (hw : ∀ n ∈ x.1.weights Tryd.prog 22, n ≤ 140737488351232) (hk : Rows.uptoBulk x.1 ≤ 1048576) : ∃ zs, FramesArgU w v zs := by
  obtain ⟨zs, h1, h2⟩ := open_list (k := 6) (by decide) Tryd.underlying22 (by kernel_rfl) (FrArgOk w 1048576) (fun fuel cs y hl hy hw' hb => by
    obtain ⟨c0, c1, c2, c3, c4, c5, rfl⟩ := list6 hl
    obtain ⟨z, ns, hz, e0, e1, e2, e3, e4, hr, hb', hl1, hl2⟩ := frame_of_trod hy hw'
    subst e0 e1 e2 e3 e4
    exact ⟨⟨z, c5, ns⟩, rfl, hz, hr, hb', hl1, Nat.le_trans hl2 (Nat.le_trans hb hk)⟩) h hw
  exact ⟨zs, Nat.le_trans h1 hk, h2⟩
end
end Go.Proofs.YtfdfibajlggeeaaDoor
