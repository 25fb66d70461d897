/-
  culvertlaw10.Op and api.Config among the arguments; a script of Ops.
-/
import Derived.Test.YteghehhifebhcaaDoorOpenL
import Derived.Test.YteghehhifebhcaaDoorOpenB
namespace Go.Proofs.YteghehhifebhcaaDoor
open Go.ChangeShapes Go.WideShapes Go.RowKit Go.Deep

/-- a configuration's numbers -/
structure Cf where
  win : Int
  stage : Int
  frame : Int
  c3 : Int
  c4 : Int
  c5 : Int
  c6 : Int
  c7 : Int
def inI (n : Int) : Prop := -9223372036854775808 ≤ n ∧ n ≤ 9223372036854775807
def Cf.ok (z : Cf) : Prop := inI z.win ∧ inI z.stage ∧ inI z.frame
def Cf.cells (z : Cf) : List Value := [.int .i64 z.win, .int .i64 z.stage, .int .i64 z.frame, .int .i64 z.c3, .int .i64 z.c4, .int .i64 z.c5, .int .i64 z.c6, .int .i64 z.c7]
def Cf.val (z : Cf) : Value := .agg #[.int .i64 z.win, .int .i64 z.stage, .int .i64 z.frame, .int .i64 z.c3, .int .i64 z.c4, .int .i64 z.c5, .int .i64 z.c6, .int .i64 z.c7]
structure OpV10 where
  kind : Int
  x : Int
  n : Int
  sl : Value
  ns : List Int
  delta : Int
  flag : Bool
  cfg : Cf
instance : Inhabited OpV10 := ⟨⟨0, 0, 0, .slice none 0 0, [], 0, false, ⟨0, 0, 0, 0, 0, 0, 0, 0⟩⟩⟩
def OpV10.cells (z : OpV10) : List Value := [.int .i64 z.kind, .int .i64 z.x, .int .i64 z.n, z.sl, .int .u32 z.delta, .bool z.flag, .int .i64 z.cfg.win, .int .i64 z.cfg.stage, .int .i64 z.cfg.frame, .int .i64 z.cfg.c3, .int .i64 z.cfg.c4, .int .i64 z.cfg.c5, .int .i64 z.cfg.c6, .int .i64 z.cfg.c7]
/-- what is known of an op -/
def Op10Ok (w : World) (z : OpV10) (cs : List Value) : Prop := cs = z.cells ∧ inI z.x ∧ inI z.n ∧ (0 ≤ z.delta ∧ z.delta ≤ 4294967295) ∧ z.cfg.ok ∧ Rd w z.sl z.ns ∧ AreBytes z.ns ∧ z.ns.length ≤ 140737488351232

section
variable {H : Type} {enc : TypeId × Value → H} {w : World} {base : Nat} {spare : Nat → Bool} {held : Bool}
theorem list8' {α : Type} {cs : List α} (h : cs.length = 8) : ∃ c0 c1 c2 c3 c4 c5 c6 c7, cs = [c0, c1, c2, c3, c4, c5, c6, c7] := by
  match cs, h with
  | [c0, c1, c2, c3, c4, c5, c6, c7], _ => exact ⟨c0, c1, c2, c3, c4, c5, c6, c7, rfl⟩
theorem list14 {α : Type} {cs : List α} (h : cs.length = 14) : ∃ c0 c1 c2 c3 c4 c5 c6 c7 c8 c9 c10 c11 c12 c13, cs = [c0, c1, c2, c3, c4, c5, c6, c7, c8, c9, c10, c11, c12, c13] := by
  match cs, h with
  | [c0, c1, c2, c3, c4, c5, c6, c7, c8, c9, c10, c11, c12, c13], _ => exact ⟨c0, c1, c2, c3, c4, c5, c6, c7, c8, c9, c10, c11, c12, c13, rfl⟩
set_option maxRecDepth 100000 in
theorem cfg_of_trod {fuel : Nat} {cs : List Value} {x : DataW H × List MemPlace} (hl : cs.length = 8) (h : DataW.trod enc Tryd.prog w base spare held fuel 23 cs = some x) : ∃ z : Cf, cs = z.cells ∧ z.ok := by
  obtain ⟨c0, c1, c2, c3, c4, c5, c6, c7, rfl⟩ := list8' hl
  have hCI : Tryd.prog.cellsOf 3 = 1 := by kernel_rfl
  obtain ⟨xs, n', _, hDx, _, hxl, hfl⟩ := DataW.trod_struct Tryd.underlying23 h
  have hxl8 : xs.length = 8 := hxl
  have t0 : DataW.trod enc Tryd.prog w base spare held n' 3 (([c0, c1, c2, c3, c4, c5, c6, c7].drop 0).take (Tryd.prog.cellsOf 3)) = xs[0]? := hfl 0 _ rfl
  have t1 : DataW.trod enc Tryd.prog w base spare held n' 3 (([c0, c1, c2, c3, c4, c5, c6, c7].drop 1).take (Tryd.prog.cellsOf 3)) = xs[1]? := hfl 1 _ rfl
  have t2 : DataW.trod enc Tryd.prog w base spare held n' 3 (([c0, c1, c2, c3, c4, c5, c6, c7].drop 2).take (Tryd.prog.cellsOf 3)) = xs[2]? := hfl 2 _ rfl
  have t3 : DataW.trod enc Tryd.prog w base spare held n' 3 (([c0, c1, c2, c3, c4, c5, c6, c7].drop 3).take (Tryd.prog.cellsOf 3)) = xs[3]? := hfl 3 _ rfl
  have t4 : DataW.trod enc Tryd.prog w base spare held n' 3 (([c0, c1, c2, c3, c4, c5, c6, c7].drop 4).take (Tryd.prog.cellsOf 3)) = xs[4]? := hfl 4 _ rfl
  have t5 : DataW.trod enc Tryd.prog w base spare held n' 3 (([c0, c1, c2, c3, c4, c5, c6, c7].drop 5).take (Tryd.prog.cellsOf 3)) = xs[5]? := hfl 5 _ rfl
  have t6 : DataW.trod enc Tryd.prog w base spare held n' 3 (([c0, c1, c2, c3, c4, c5, c6, c7].drop 6).take (Tryd.prog.cellsOf 3)) = xs[6]? := hfl 6 _ rfl
  have t7 : DataW.trod enc Tryd.prog w base spare held n' 3 (([c0, c1, c2, c3, c4, c5, c6, c7].drop 7).take (Tryd.prog.cellsOf 3)) = xs[7]? := hfl 7 _ rfl
  simp only [hCI, List.drop_zero, List.drop_succ_cons, List.take_succ_cons, List.take_zero] at t0 t1 t2 t3 t4 t5 t6 t7
  match xs, hxl8 with
  | [x0, x1, x2, x3, x4, x5, x6, x7], _ =>
    simp only [List.getElem?_cons_zero, List.getElem?_cons_succ] at t0 t1 t2 t3 t4 t5 t6 t7
    obtain ⟨n0, e0, w0⟩ := open_int1 Tryd.underlying3 t0
    obtain ⟨n1, e1, w1⟩ := open_int1 Tryd.underlying3 t1
    obtain ⟨n2, e2, w2⟩ := open_int1 Tryd.underlying3 t2
    obtain ⟨n3, e3, _⟩ := open_int1 Tryd.underlying3 t3
    obtain ⟨n4, e4, _⟩ := open_int1 Tryd.underlying3 t4
    obtain ⟨n5, e5, _⟩ := open_int1 Tryd.underlying3 t5
    obtain ⟨n6, e6, _⟩ := open_int1 Tryd.underlying3 t6
    obtain ⟨n7, e7, _⟩ := open_int1 Tryd.underlying3 t7
    subst e0 e1 e2 e3 e4 e5 e6 e7
    exact ⟨⟨n0, n1, n2, n3, n4, n5, n6, n7⟩, rfl, bounds_i64 w0, bounds_i64 w1, bounds_i64 w2⟩
set_option maxRecDepth 100000 in
theorem op10_of_trod {fuel : Nat} {cs : List Value} {x : DataW H × List MemPlace} (hl : cs.length = 14) (h : DataW.trod enc Tryd.prog w base spare held fuel 56 cs = some x) (hw : ∀ n ∈ x.1.weights Tryd.prog 56, n ≤ 140737488351232) : ∃ z, Op10Ok w z cs := by
  obtain ⟨c0, c1, c2, c3, c4, c5, c6, c7, c8, c9, c10, c11, c12, c13, rfl⟩ := list14 hl
  have hCI : Tryd.prog.cellsOf 3 = 1 := by kernel_rfl
  have hCU : Tryd.prog.cellsOf 33 = 1 := by kernel_rfl
  have hCO : Tryd.prog.cellsOf 4 = 1 := by kernel_rfl
  have hCB : Tryd.prog.cellsOf 36 = 1 := by kernel_rfl
  have hCC : Tryd.prog.cellsOf 23 = 8 := by kernel_rfl
  obtain ⟨xs, n', _, hDx, _, hxl, hfl⟩ := DataW.trod_struct Tryd.underlying56 h
  have hxl7 : xs.length = 7 := hxl
  have t0 : DataW.trod enc Tryd.prog w base spare held n' 3 (([c0, c1, c2, c3, c4, c5, c6, c7, c8, c9, c10, c11, c12, c13].drop 0).take (Tryd.prog.cellsOf 3)) = xs[0]? := hfl 0 _ rfl
  have t1 : DataW.trod enc Tryd.prog w base spare held n' 3 (([c0, c1, c2, c3, c4, c5, c6, c7, c8, c9, c10, c11, c12, c13].drop 1).take (Tryd.prog.cellsOf 3)) = xs[1]? := hfl 1 _ rfl
  have t2 : DataW.trod enc Tryd.prog w base spare held n' 3 (([c0, c1, c2, c3, c4, c5, c6, c7, c8, c9, c10, c11, c12, c13].drop 2).take (Tryd.prog.cellsOf 3)) = xs[2]? := hfl 2 _ rfl
  have t3 : DataW.trod enc Tryd.prog w base spare held n' 36 (([c0, c1, c2, c3, c4, c5, c6, c7, c8, c9, c10, c11, c12, c13].drop 3).take (Tryd.prog.cellsOf 36)) = xs[3]? := hfl 3 _ rfl
  have t4 : DataW.trod enc Tryd.prog w base spare held n' 33 (([c0, c1, c2, c3, c4, c5, c6, c7, c8, c9, c10, c11, c12, c13].drop 4).take (Tryd.prog.cellsOf 33)) = xs[4]? := hfl 4 _ rfl
  have t5 : DataW.trod enc Tryd.prog w base spare held n' 4 (([c0, c1, c2, c3, c4, c5, c6, c7, c8, c9, c10, c11, c12, c13].drop 5).take (Tryd.prog.cellsOf 4)) = xs[5]? := hfl 5 _ rfl
  have t6 : DataW.trod enc Tryd.prog w base spare held n' 23 (([c0, c1, c2, c3, c4, c5, c6, c7, c8, c9, c10, c11, c12, c13].drop 6).take (Tryd.prog.cellsOf 23)) = xs[6]? := hfl 6 _ rfl
  simp only [hCI, hCU, hCO, hCB, hCC, List.drop_zero, List.drop_succ_cons, List.take_succ_cons, List.take_zero] at t0 t1 t2 t3 t4 t5 t6
  match xs, hxl7 with
  | [x0, x1, x2, x3, x4, x5, x6], _ =>
    simp only [List.getElem?_cons_zero, List.getElem?_cons_succ] at t0 t1 t2 t3 t4 t5 t6
    obtain ⟨n0, e0, _⟩ := open_int1 Tryd.underlying3 t0
    obtain ⟨n1, e1, w1⟩ := open_int1 Tryd.underlying3 t1
    obtain ⟨n2, e2, w2⟩ := open_int1 Tryd.underlying3 t2
    obtain ⟨n4, e4, w4⟩ := open_int1 Tryd.underlying33 t4
    obtain ⟨b, e5, _⟩ := DataW.trod_bool Tryd.underlying4 t5
    have e5' : c5 = .bool b := by simpa using e5
    obtain ⟨cf, e6, w6⟩ := cfg_of_trod rfl t6
    have hx1 : x.1 = .agg [x0.1, x1.1, x2.1, x3.1, x4.1, x5.1, x6.1] := congrArg Prod.fst hDx
    obtain ⟨ns, hr, hb, hl1⟩ := bytes_of_trod t3 (fun k hk => hw k (by
      rw [hx1]
      simp only [DataW.weights, Tryd.underlying56]
      exact DataW.weights_mem_each (j := 3) (t := 36) (d := x3.1) rfl rfl k hk))
    simp only [Cf.cells, List.cons.injEq, and_true] at e6
    obtain ⟨f0, f1, f2, f3, f4, f5, f6, f7⟩ := e6
    subst e0 e1 e2 e4 e5' f0 f1 f2 f3 f4 f5 f6 f7
    exact ⟨⟨n0, n1, n2, c3, ns, n4, b, cf⟩, rfl, bounds_i64 w1, bounds_i64 w2, bounds_u32 w4, w6, hr, hb, hl1⟩
def Ops10Arg (w : World) (v : Value) (zs : List OpV10) : Prop := ListAt (Op10Ok w) 14 w v zs
theorem ops10_open {fuel : Nat} {v : Value} {x : DataW H × List MemPlace} (h : DataW.trod enc Tryd.prog w base spare held fuel 54 [v] = some x) (hw : ∀ n ∈ x.1.weights Tryd.prog 54, n ≤ 140737488351232) : ∃ zs, Ops10Arg w v zs := by
  obtain ⟨zs, _, h2⟩ := open_list (k := 14) (by decide) Tryd.underlying54 (by kernel_rfl) (Op10Ok w) (fun fuel cs y hl hy hw' _ => op10_of_trod hl hy hw') h hw
  exact ⟨zs, h2⟩
end
end Go.Proofs.YteghehhifebhcaaDoor
