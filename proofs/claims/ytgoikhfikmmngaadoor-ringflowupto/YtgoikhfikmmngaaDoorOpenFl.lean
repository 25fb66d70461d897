/-
  culvertlaw02.Flow among the arguments: a list of them, with their bulk.
-/
import Derived.Test.YtgoikhfikmmngaaDoorOpenU
import Derived.Test.YtgoikhfikmmngaaDoorOpenB
import Derived.OpenShut
import Derived.SizedLaws
namespace Go.Proofs.YtgoikhfikmmngaaDoor
open Go.ChangeShapes Go.WideShapes Go.RowKit Go.Deep

structure FlowV where
  sl : Value
  ns : List Int
  out : Int
  drop : Bool
instance : Inhabited FlowV := ⟨⟨.slice none 0 0, [], 0, false⟩⟩
def FlowV.cells (z : FlowV) : List Value := [z.sl, .int .i64 z.out, .bool z.drop]
def FlowOk (w : World) (B : Nat) (z : FlowV) (cs : List Value) : Prop := cs = z.cells ∧ Rd w z.sl z.ns ∧ AreBytes z.ns ∧ z.ns.length ≤ B ∧ (-9223372036854775808 ≤ z.out ∧ z.out ≤ 9223372036854775807)
section
variable {H : Type} {enc : TypeId × Value → H} {w : World} {base : Nat} {spare : Nat → Bool} {held : Bool}
theorem three {α : Type} {cs : List α} (h : cs.length = 3) : ∃ c0 c1 c2, cs = [c0, c1, c2] := by
  match cs, h with
  | [c0, c1, c2], _ => exact ⟨c0, c1, c2, rfl⟩
set_option maxRecDepth 100000 in
theorem flow_of_trod {fuel : Nat} {cs : List Value} {x : DataW H × List MemPlace} (hl : cs.length = 3) (h : DataW.trod enc Tryd.prog w base spare held fuel 31 cs = some x) (hw : ∀ n ∈ x.1.weights Tryd.prog 31, n ≤ 140737488351232) : ∃ z, FlowOk w (Rows.uptoBulk x.1) z cs := by
  obtain ⟨c0, c1, c2, rfl⟩ := three hl
  have hCI : Tryd.prog.cellsOf 3 = 1 := by kernel_rfl
  have hCS : Tryd.prog.cellsOf 29 = 1 := by kernel_rfl
  have hCB : Tryd.prog.cellsOf 4 = 1 := by kernel_rfl
  obtain ⟨xs, n', _, hDx, _, hxl, hfl⟩ := DataW.trod_struct Tryd.underlying31 h
  have hxl3 : xs.length = 3 := hxl
  have t0 : DataW.trod enc Tryd.prog w base spare held n' 29 (([c0, c1, c2].drop 0).take (Tryd.prog.cellsOf 29)) = xs[0]? := hfl 0 _ rfl
  have t1 : DataW.trod enc Tryd.prog w base spare held n' 3 (([c0, c1, c2].drop 1).take (Tryd.prog.cellsOf 3)) = xs[1]? := hfl 1 _ rfl
  have t2 : DataW.trod enc Tryd.prog w base spare held n' 4 (([c0, c1, c2].drop 2).take (Tryd.prog.cellsOf 4)) = xs[2]? := hfl 2 _ rfl
  simp only [hCI, hCS, hCB, List.drop_zero, List.drop_succ_cons, List.take_succ_cons, List.take_zero] at t0 t1 t2
  match xs, hxl3 with
  | [x0, x1, x2], _ =>
    simp only [List.getElem?_cons_zero, List.getElem?_cons_succ] at t0 t1 t2
    obtain ⟨k, e1, w1⟩ := open_int1 Tryd.underlying3 t1
    obtain ⟨d, e2, _⟩ := DataW.trod_bool Tryd.underlying4 t2
    have hx1 : x.1 = .agg [x0.1, x1.1, x2.1] := congrArg Prod.fst hDx
    obtain ⟨ns, hr, hb, _⟩ := bytes_of_trod t0 (fun k hk => hw k (by
      rw [hx1]
      simp only [DataW.weights, Tryd.underlying31]
      exact DataW.weights_mem_each (j := 0) (t := 29) (d := x0.1) rfl rfl k hk))
    obtain ⟨q, c, e⟩ := hr.shape
    have hlen := ints_bulk Tryd.underlying29 Tryd.underlying5 (by kernel_rfl) t0 e
    obtain rfl : c2 = .bool d := by simpa using e2
    subst e1
    refine ⟨⟨c0, ns, k, d⟩, rfl, hr, hb, ?_, bounds_i64 w1⟩
    rw [hx1]
    simp only [Rows.uptoBulk, Rows.uptoBulkAll]
    omega
def FlowsArg (w : World) (v : Value) (zs : List FlowV) : Prop := ListAt (FlowOk w 1048576) 3 w v zs ∧ zs.length ≤ 1048576
set_option maxRecDepth 100000 in
theorem flows_open {fuel : Nat} {v : Value} {x : DataW H × List MemPlace} (h : DataW.trod enc Tryd.prog w base spare held fuel 22 [v] = some x) (hw : ∀ n ∈ x.1.weights Tryd.prog 22, n ≤ 140737488351232) (hk : Rows.uptoBulk x.1 ≤ 1048576) : ∃ zs, FlowsArg w v zs := by
  obtain ⟨zs, h1, h2⟩ := open_list (k := 3) (by decide) Tryd.underlying22 (by kernel_rfl) (FlowOk w 1048576) (fun fuel cs y hl hy hw' hb => by
    obtain ⟨z, e, hr, hb', hln, ho⟩ := flow_of_trod hl hy hw'
    exact ⟨z, e, hr, hb', by omega, ho⟩) h hw
  exact ⟨zs, h2, Nat.le_trans h1 hk⟩
end
end Go.Proofs.YtgoikhfikmmngaaDoor
