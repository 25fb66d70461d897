/-
  culvertlaw07.Op among the arguments: a script of them.
-/
import Derived.Test.YtefaicgfcibofaaDoorOpenL
namespace Go.Proofs.YtefaicgfcibofaaDoor
open Go.ChangeShapes Go.WideShapes Go.RowKit Go.Deep

structure OpV7 where
  kind : Int
  n : Int
  d : Int
instance : Inhabited OpV7 := ⟨⟨0, 0, 0⟩⟩
def OpV7.cells (z : OpV7) : List Value := [.int .i64 z.kind, .int .i64 z.n, .int .u32 z.d]
/-- what is known of an op -/
def Op7Ok (z : OpV7) (cs : List Value) : Prop := cs = z.cells ∧ (-9223372036854775808 ≤ z.n ∧ z.n ≤ 9223372036854775807) ∧ (0 ≤ z.d ∧ z.d ≤ 4294967295)

section
variable {H : Type} {enc : TypeId × Value → H} {w : World} {base : Nat} {spare : Nat → Bool} {held : Bool}
theorem list3 {α : Type} {cs : List α} (h : cs.length = 3) : ∃ c0 c1 c2, cs = [c0, c1, c2] := by
  match cs, h with
  | [c0, c1, c2], _ => exact ⟨c0, c1, c2, rfl⟩
set_option maxRecDepth 100000 in
theorem op7_of_trod {fuel : Nat} {cs : List Value} {x : DataW H × List MemPlace} (hl : cs.length = 3) (h : DataW.trod enc Tryd.prog w base spare held fuel 36 cs = some x) : ∃ z, Op7Ok z cs := by
  obtain ⟨c0, c1, c2, rfl⟩ := list3 hl
  have hCI : Tryd.prog.cellsOf 3 = 1 := by kernel_rfl
  have hCU : Tryd.prog.cellsOf 34 = 1 := by kernel_rfl
  obtain ⟨xs, n', _, hDx, _, hxl, hfl⟩ := DataW.trod_struct Tryd.underlying36 h
  have hxl3 : xs.length = 3 := hxl
  have t0 : DataW.trod enc Tryd.prog w base spare held n' 3 (([c0, c1, c2].drop 0).take (Tryd.prog.cellsOf 3)) = xs[0]? := hfl 0 _ rfl
  have t1 : DataW.trod enc Tryd.prog w base spare held n' 3 (([c0, c1, c2].drop 1).take (Tryd.prog.cellsOf 3)) = xs[1]? := hfl 1 _ rfl
  have t2 : DataW.trod enc Tryd.prog w base spare held n' 34 (([c0, c1, c2].drop 2).take (Tryd.prog.cellsOf 34)) = xs[2]? := hfl 2 _ rfl
  simp only [hCI, hCU, List.drop_zero, List.drop_succ_cons, List.take_succ_cons, List.take_zero] at t0 t1 t2
  match xs, hxl3 with
  | [x0, x1, x2], _ =>
    simp only [List.getElem?_cons_zero, List.getElem?_cons_succ] at t0 t1 t2
    obtain ⟨k, e0, _⟩ := open_int1 Tryd.underlying3 t0
    obtain ⟨m, e1, w1⟩ := open_int1 Tryd.underlying3 t1
    obtain ⟨d, e2, w2⟩ := open_int1 Tryd.underlying34 t2
    subst e0 e1 e2
    exact ⟨⟨k, m, d⟩, rfl, bounds_i64 w1, bounds_u32 w2⟩
def Ops7Arg (w : World) (v : Value) (zs : List OpV7) : Prop := ListAt Op7Ok 3 w v zs
theorem ops7_open {fuel : Nat} {v : Value} {x : DataW H × List MemPlace} (h : DataW.trod enc Tryd.prog w base spare held fuel 22 [v] = some x) (hw : ∀ n ∈ x.1.weights Tryd.prog 22, n ≤ 140737488351232) : ∃ zs, Ops7Arg w v zs := by
  obtain ⟨zs, h1, h2⟩ := open_list (k := 3) (by decide) Tryd.underlying22 (by kernel_rfl) Op7Ok (fun fuel cs y hl hy hw' hb => op7_of_trod hl hy) h hw
  exact ⟨zs, h2⟩
end
end Go.Proofs.YtefaicgfcibofaaDoor
