/-
  layer 8's arguments: a script of culvertlaw08.Op, a list of numbers, a Whole.
-/
import Derived.Test.YtkkfjbjlggkhiaaDoorOpenL
import Derived.OpenShut
import Derived.SizedLaws
namespace Go.Proofs.YtkkfjbjlggkhiaaDoor
open Go.ChangeShapes Go.WideShapes Go.RowKit Go.Deep

structure OpV8 where
  comes : Bool
  n : Int
instance : Inhabited OpV8 := ⟨⟨false, 0⟩⟩
def OpV8.cells (z : OpV8) : List Value := [.bool z.comes, .int .i64 z.n]
def Op8Ok (z : OpV8) (cs : List Value) : Prop := cs = z.cells ∧ (-9223372036854775808 ≤ z.n ∧ z.n ≤ 9223372036854775807)
def Int8Ok (z : Int) (cs : List Value) : Prop := cs = [.int .i64 z] ∧ (-9223372036854775808 ≤ z ∧ z ≤ 9223372036854775807)

section
variable {H : Type} {enc : TypeId × Value → H} {w : World} {base : Nat} {spare : Nat → Bool} {held : Bool}
theorem list2 {α : Type} {cs : List α} (h : cs.length = 2) : ∃ c0 c1, cs = [c0, c1] := by
  match cs, h with
  | [c0, c1], _ => exact ⟨c0, c1, rfl⟩
theorem list1 {α : Type} {cs : List α} (h : cs.length = 1) : ∃ c0, cs = [c0] := by
  match cs, h with
  | [c0], _ => exact ⟨c0, rfl⟩
theorem array2 {α : Type} {cs : Array α} (h : cs.size = 2) : ∃ c0 c1, cs = #[c0, c1] := by
  obtain ⟨l⟩ := cs
  match l, h with
  | [c0, c1], _ => exact ⟨c0, c1, rfl⟩
set_option maxRecDepth 100000 in
theorem op8_of_trod {fuel : Nat} {cs : List Value} {x : DataW H × List MemPlace} (hl : cs.length = 2) (h : DataW.trod enc Tryd.prog w base spare held fuel 37 cs = some x) : ∃ z, Op8Ok z cs := by
  obtain ⟨c0, c1, rfl⟩ := list2 hl
  have hCI : Tryd.prog.cellsOf 3 = 1 := by kernel_rfl
  have hCB : Tryd.prog.cellsOf 4 = 1 := by kernel_rfl
  obtain ⟨xs, n', _, hDx, _, hxl, hfl⟩ := DataW.trod_struct Tryd.underlying37 h
  have hxl3 : xs.length = 2 := hxl
  have t0 : DataW.trod enc Tryd.prog w base spare held n' 4 (([c0, c1].drop 0).take (Tryd.prog.cellsOf 4)) = xs[0]? := hfl 0 _ rfl
  have t1 : DataW.trod enc Tryd.prog w base spare held n' 3 (([c0, c1].drop 1).take (Tryd.prog.cellsOf 3)) = xs[1]? := hfl 1 _ rfl
  simp only [hCI, hCB, List.drop_zero, List.drop_succ_cons, List.take_succ_cons, List.take_zero] at t0 t1
  match xs, hxl3 with
  | [x0, x1], _ =>
    simp only [List.getElem?_cons_zero, List.getElem?_cons_succ] at t0 t1
    obtain ⟨k, e0, _⟩ := DataW.trod_bool Tryd.underlying4 t0
    obtain ⟨m, e1, w1⟩ := open_int1 Tryd.underlying3 t1
    obtain rfl : c0 = .bool k := by simpa using e0
    subst e1
    exact ⟨⟨k, m⟩, rfl, bounds_i64 w1⟩
set_option maxRecDepth 100000 in
theorem whole8_of_trod {fuel : Nat} {c0 c1 : Value} {x : DataW H × List MemPlace} (h : DataW.trod enc Tryd.prog w base spare held fuel 55 [c0, c1] = some x) : ∃ a b : Int, (c0 = .int .i64 a ∧ c1 = .int .i64 b) ∧ (-9223372036854775808 ≤ a ∧ a ≤ 9223372036854775807) ∧ (-9223372036854775808 ≤ b ∧ b ≤ 9223372036854775807) := by
  have hCI : Tryd.prog.cellsOf 3 = 1 := by kernel_rfl
  obtain ⟨xs, n', _, hDx, _, hxl, hfl⟩ := DataW.trod_struct Tryd.underlying55 h
  have hxl3 : xs.length = 2 := hxl
  have t0 : DataW.trod enc Tryd.prog w base spare held n' 3 (([c0, c1].drop 0).take (Tryd.prog.cellsOf 3)) = xs[0]? := hfl 0 _ rfl
  have t1 : DataW.trod enc Tryd.prog w base spare held n' 3 (([c0, c1].drop 1).take (Tryd.prog.cellsOf 3)) = xs[1]? := hfl 1 _ rfl
  simp only [hCI, List.drop_zero, List.drop_succ_cons, List.take_succ_cons, List.take_zero] at t0 t1
  match xs, hxl3 with
  | [x0, x1], _ =>
    simp only [List.getElem?_cons_zero, List.getElem?_cons_succ] at t0 t1
    obtain ⟨m, e0, w0⟩ := open_int1 Tryd.underlying3 t0
    obtain ⟨k, e1, w1⟩ := open_int1 Tryd.underlying3 t1
    exact ⟨m, k, ⟨e0, e1⟩, bounds_i64 w0, bounds_i64 w1⟩
def Ops8Arg (w : World) (v : Value) (zs : List OpV8) : Prop := ListAt Op8Ok 2 w v zs
set_option maxRecDepth 100000 in
theorem ops8_open {fuel : Nat} {v : Value} {x : DataW H × List MemPlace} (h : DataW.trod enc Tryd.prog w base spare held fuel 31 [v] = some x) (hw : ∀ n ∈ x.1.weights Tryd.prog 31, n ≤ 140737488351232) : ∃ zs, Ops8Arg w v zs := by
  obtain ⟨zs, h1, h2⟩ := open_list (k := 2) (by decide) Tryd.underlying31 (by kernel_rfl) Op8Ok (fun fuel cs y hl hy hw' hb => op8_of_trod hl hy) h hw
  exact ⟨zs, h2⟩
def Ints8Arg (w : World) (v : Value) (zs : List Int) : Prop := ListAt Int8Ok 1 w v zs
set_option maxRecDepth 100000 in
theorem ints8_open {fuel : Nat} {v : Value} {x : DataW H × List MemPlace} (h : DataW.trod enc Tryd.prog w base spare held fuel 47 [v] = some x) (hw : ∀ n ∈ x.1.weights Tryd.prog 47, n ≤ 140737488351232) : ∃ zs, Ints8Arg w v zs := by
  obtain ⟨zs, h1, h2⟩ := open_list (k := 1) (by decide) Tryd.underlying47 (by kernel_rfl) Int8Ok (fun fuel cs y hl hy hw' hb => by
    obtain ⟨c0, rfl⟩ := list1 hl
    obtain ⟨n, e, w1⟩ := open_int1 Tryd.underlying3 hy
    subst e
    exact ⟨n, rfl, bounds_i64 w1⟩) h hw
  exact ⟨zs, h2⟩
structure WholeV where
  window : Int
  n : Int
def WholeArg (_w : World) (v : Value) (z : WholeV) : Prop := v = .agg #[.int .i64 z.window, .int .i64 z.n] ∧ (-9223372036854775808 ≤ z.window ∧ z.window ≤ 9223372036854775807) ∧ (-9223372036854775808 ≤ z.n ∧ z.n ≤ 9223372036854775807)
theorem wide2 {P : Program} {r : Reach} {b0 : Nat} {t : TypeId} {f0 f1 : Field} {v : Value} (hs : P.underlying t = some (.struct #[f0, f1])) (hC : P.cellsOf t = 2) (hv : Value.okWide P w r b0 t v) : ∃ c0 c1, v = .agg #[c0, c1] := by
  obtain ⟨cs, rfl, hsz⟩ := okWide_struct hs hv
  obtain ⟨c0, c1, rfl⟩ := array2 (hsz.trans hC)
  exact ⟨c0, c1, rfl⟩
set_option maxRecDepth 100000 in
theorem whole_open {r : Reach} {b0 : Nat} {v : Value} {d : DataW H} {p : List MemPlace} (hv : Value.okWide Tryd.prog w r b0 55 v)
    (h : DataW.Trod enc Tryd.prog w base spare held 55 v d p) : ∃ z, WholeArg w v z := by
  have hC : Tryd.prog.cellsOf 55 = 2 := by kernel_rfl
  have hh := wide2 (P := Tryd.prog) (w := w) (r := r) (b0 := b0) (t := 55) (v := v) Tryd.underlying55 hC
  have h5 := hh hv
  clear hh hC hv
  obtain ⟨c0, c1, hv⟩ := h5
  subst hv
  obtain ⟨fuel, hf⟩ := h
  have hf' : DataW.trod enc Tryd.prog w base spare held fuel 55 [c0, c1] = some (d, p) := hf
  obtain ⟨a, b, ⟨e0, e1⟩, h0, h1⟩ := whole8_of_trod hf'
  subst e0 e1
  exact ⟨⟨a, b⟩, rfl, h0, h1⟩
end
end Go.Proofs.YtkkfjbjlggkhiaaDoor
