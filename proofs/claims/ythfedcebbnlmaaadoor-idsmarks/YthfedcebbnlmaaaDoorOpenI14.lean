/-
  layer 14's arguments: a script of culvertlaw14.Op, a Whose, Skips, a list of bools.
-/
import Derived.Test.YthfedcebbnlmaaaDoorOpenL
import Derived.OpenShut
import Derived.SizedLaws
namespace Go.Proofs.YthfedcebbnlmaaaDoor
open Go.ChangeShapes Go.WideShapes Go.RowKit Go.Deep

structure OpV14 where
  kind : Int
  id : Int
instance : Inhabited OpV14 := ⟨⟨0, 0⟩⟩
def OpV14.cells (z : OpV14) : List Value := [.int .i64 z.kind, .int .u32 z.id]
def Op14Ok (z : OpV14) (cs : List Value) : Prop := cs = z.cells ∧ (0 ≤ z.id ∧ z.id ≤ 4294967295)
def Bool14Ok (z : Bool) (cs : List Value) : Prop := cs = [.bool z]

section
variable {H : Type} {enc : TypeId × Value → H} {w : World} {base : Nat} {spare : Nat → Bool} {held : Bool}
theorem list2 {α : Type} {cs : List α} (h : cs.length = 2) : ∃ c0 c1, cs = [c0, c1] := by
  match cs, h with
  | [c0, c1], _ => exact ⟨c0, c1, rfl⟩
theorem list1 {α : Type} {cs : List α} (h : cs.length = 1) : ∃ c0, cs = [c0] := by
  match cs, h with
  | [c0], _ => exact ⟨c0, rfl⟩
theorem array2 {α : Type} {cs : Array α} (h : cs.size = 2) : ∃ c0 c1, cs = #[c0, c1] := by
  obtain ⟨l⟩ := cs
  match l, h with
  | [c0, c1], _ => exact ⟨c0, c1, rfl⟩
theorem array3 {α : Type} {cs : Array α} (h : cs.size = 3) : ∃ c0 c1 c2, cs = #[c0, c1, c2] := by
  obtain ⟨l⟩ := cs
  match l, h with
  | [c0, c1, c2], _ => exact ⟨c0, c1, c2, rfl⟩
set_option maxRecDepth 100000 in
theorem op14_of_trod {fuel : Nat} {cs : List Value} {x : DataW H × List MemPlace} (hl : cs.length = 2) (h : DataW.trod enc Tryd.prog w base spare held fuel 41 cs = some x) : ∃ z, Op14Ok z cs := by
  obtain ⟨c0, c1, rfl⟩ := list2 hl
  have hCI : Tryd.prog.cellsOf 3 = 1 := by kernel_rfl
  have hCU : Tryd.prog.cellsOf 29 = 1 := by kernel_rfl
  obtain ⟨xs, n', _, hDx, _, hxl, hfl⟩ := DataW.trod_struct Tryd.underlying41 h
  have hxl3 : xs.length = 2 := hxl
  have t0 : DataW.trod enc Tryd.prog w base spare held n' 3 (([c0, c1].drop 0).take (Tryd.prog.cellsOf 3)) = xs[0]? := hfl 0 _ rfl
  have t1 : DataW.trod enc Tryd.prog w base spare held n' 29 (([c0, c1].drop 1).take (Tryd.prog.cellsOf 29)) = xs[1]? := hfl 1 _ rfl
  simp only [hCI, hCU, List.drop_zero, List.drop_succ_cons, List.take_succ_cons, List.take_zero] at t0 t1
  match xs, hxl3 with
  | [x0, x1], _ =>
    simp only [List.getElem?_cons_zero, List.getElem?_cons_succ] at t0 t1
    obtain ⟨k, e0, _⟩ := open_int1 Tryd.underlying3 t0
    obtain ⟨m, e1, w1⟩ := open_int1 Tryd.underlying29 t1
    subst e0 e1
    exact ⟨⟨k, m⟩, rfl, bounds_u32 w1⟩
def Ops14Arg (w : World) (v : Value) (zs : List OpV14) : Prop := ListAt Op14Ok 2 w v zs
set_option maxRecDepth 100000 in
theorem ops14_open {fuel : Nat} {v : Value} {x : DataW H × List MemPlace} (h : DataW.trod enc Tryd.prog w base spare held fuel 35 [v] = some x) (hw : ∀ n ∈ x.1.weights Tryd.prog 35, n ≤ 140737488351232) : ∃ zs, Ops14Arg w v zs := by
  obtain ⟨zs, h1, h2⟩ := open_list (k := 2) (by decide) Tryd.underlying35 (by kernel_rfl) Op14Ok (fun fuel cs y hl hy hw' hb => op14_of_trod hl hy) h hw
  exact ⟨zs, h2⟩
def Bools14Arg (w : World) (v : Value) (zs : List Bool) : Prop := ListAt Bool14Ok 1 w v zs
set_option maxRecDepth 100000 in
theorem bools14_open {fuel : Nat} {v : Value} {x : DataW H × List MemPlace} (h : DataW.trod enc Tryd.prog w base spare held fuel 56 [v] = some x) (hw : ∀ n ∈ x.1.weights Tryd.prog 56, n ≤ 140737488351232) : ∃ zs, Bools14Arg w v zs := by
  obtain ⟨zs, h1, h2⟩ := open_list (k := 1) (by decide) Tryd.underlying56 (by kernel_rfl) Bool14Ok (fun fuel cs y hl hy hw' hb => by
    obtain ⟨c0, rfl⟩ := list1 hl
    obtain ⟨b, e0, _⟩ := DataW.trod_bool Tryd.underlying4 hy
    obtain rfl : c0 = .bool b := by simpa using e0
    exact ⟨b, rfl⟩) h hw
  exact ⟨zs, h2⟩
structure SkipsV where
  a : Int
  b : Int
def SkipsArg (_w : World) (v : Value) (z : SkipsV) : Prop := v = .agg #[.int .i64 z.a, .int .i64 z.b] ∧ (-9223372036854775808 ≤ z.a ∧ z.a ≤ 9223372036854775807) ∧ (-9223372036854775808 ≤ z.b ∧ z.b ≤ 9223372036854775807)
set_option maxRecDepth 100000 in
theorem skips_of_trod {fuel : Nat} {c0 c1 : Value} {x : DataW H × List MemPlace} (h : DataW.trod enc Tryd.prog w base spare held fuel 55 [c0, c1] = some x) : ∃ a b : Int, (c0 = .int .i64 a ∧ c1 = .int .i64 b) ∧ (-9223372036854775808 ≤ a ∧ a ≤ 9223372036854775807) ∧ (-9223372036854775808 ≤ b ∧ b ≤ 9223372036854775807) := by
  have hCI : Tryd.prog.cellsOf 3 = 1 := by kernel_rfl
  obtain ⟨xs, n', _, hDx, _, hxl, hfl⟩ := DataW.trod_struct Tryd.underlying55 h
  have hxl3 : xs.length = 2 := hxl
  have t0 : DataW.trod enc Tryd.prog w base spare held n' 3 (([c0, c1].drop 0).take (Tryd.prog.cellsOf 3)) = xs[0]? := hfl 0 _ rfl
  have t1 : DataW.trod enc Tryd.prog w base spare held n' 3 (([c0, c1].drop 1).take (Tryd.prog.cellsOf 3)) = xs[1]? := hfl 1 _ rfl
  simp only [hCI, List.drop_zero, List.drop_succ_cons, List.take_succ_cons, List.take_zero] at t0 t1
  match xs, hxl3 with
  | [x0, x1], _ =>
    simp only [List.getElem?_cons_zero, List.getElem?_cons_succ] at t0 t1
    obtain ⟨m, e0, w0⟩ := open_int1 Tryd.underlying3 t0
    obtain ⟨k, e1, w1⟩ := open_int1 Tryd.underlying3 t1
    exact ⟨m, k, ⟨e0, e1⟩, bounds_i64 w0, bounds_i64 w1⟩
set_option maxRecDepth 100000 in
theorem whose_of_trod {fuel : Nat} {c0 c1 c2 : Value} {x : DataW H × List MemPlace} (h : DataW.trod enc Tryd.prog w base spare held fuel 34 [c0, c1, c2] = some x) : ∃ (a b : Bool) (s : Int), (c0 = .bool a ∧ c1 = .bool b ∧ c2 = .int .i64 s) ∧ (-9223372036854775808 ≤ s ∧ s ≤ 9223372036854775807) := by
  have hCI : Tryd.prog.cellsOf 3 = 1 := by kernel_rfl
  have hCB : Tryd.prog.cellsOf 4 = 1 := by kernel_rfl
  obtain ⟨xs, n', _, hDx, _, hxl, hfl⟩ := DataW.trod_struct Tryd.underlying34 h
  have hxl3 : xs.length = 3 := hxl
  have t0 : DataW.trod enc Tryd.prog w base spare held n' 4 (([c0, c1, c2].drop 0).take (Tryd.prog.cellsOf 4)) = xs[0]? := hfl 0 _ rfl
  have t1 : DataW.trod enc Tryd.prog w base spare held n' 4 (([c0, c1, c2].drop 1).take (Tryd.prog.cellsOf 4)) = xs[1]? := hfl 1 _ rfl
  have t2 : DataW.trod enc Tryd.prog w base spare held n' 3 (([c0, c1, c2].drop 2).take (Tryd.prog.cellsOf 3)) = xs[2]? := hfl 2 _ rfl
  simp only [hCI, hCB, List.drop_zero, List.drop_succ_cons, List.take_succ_cons, List.take_zero] at t0 t1 t2
  match xs, hxl3 with
  | [x0, x1, x2], _ =>
    simp only [List.getElem?_cons_zero, List.getElem?_cons_succ] at t0 t1 t2
    obtain ⟨a, e0, _⟩ := DataW.trod_bool Tryd.underlying4 t0
    obtain ⟨b, e1, _⟩ := DataW.trod_bool Tryd.underlying4 t1
    obtain ⟨k, e2, w2⟩ := open_int1 Tryd.underlying3 t2
    exact ⟨a, b, k, ⟨by simpa using e0, by simpa using e1, e2⟩, bounds_i64 w2⟩
theorem wide2 {P : Program} {r : Reach} {b0 : Nat} {t : TypeId} {f0 f1 : Field} {v : Value} (hs : P.underlying t = some (.struct #[f0, f1])) (hC : P.cellsOf t = 2) (hv : Value.okWide P w r b0 t v) : ∃ c0 c1, v = .agg #[c0, c1] := by
  obtain ⟨cs, rfl, hsz⟩ := okWide_struct hs hv
  obtain ⟨c0, c1, rfl⟩ := array2 (hsz.trans hC)
  exact ⟨c0, c1, rfl⟩
theorem wide3 {P : Program} {r : Reach} {b0 : Nat} {t : TypeId} {f0 f1 f2 : Field} {v : Value} (hs : P.underlying t = some (.struct #[f0, f1, f2])) (hC : P.cellsOf t = 3) (hv : Value.okWide P w r b0 t v) : ∃ c0 c1 c2, v = .agg #[c0, c1, c2] := by
  obtain ⟨cs, rfl, hsz⟩ := okWide_struct hs hv
  obtain ⟨c0, c1, c2, rfl⟩ := array3 (hsz.trans hC)
  exact ⟨c0, c1, c2, rfl⟩
set_option maxRecDepth 100000 in
theorem skips_open {r : Reach} {b0 : Nat} {v : Value} {d : DataW H} {p : List MemPlace} (hv : Value.okWide Tryd.prog w r b0 55 v)
    (h : DataW.Trod enc Tryd.prog w base spare held 55 v d p) : ∃ z, SkipsArg w v z := by
  have hC : Tryd.prog.cellsOf 55 = 2 := by kernel_rfl
  have hh := wide2 (P := Tryd.prog) (w := w) (r := r) (b0 := b0) (t := 55) (v := v) Tryd.underlying55 hC
  have h5 := hh hv
  clear hh hC hv
  obtain ⟨c0, c1, hv⟩ := h5
  subst hv
  obtain ⟨fuel, hf⟩ := h
  have hf' : DataW.trod enc Tryd.prog w base spare held fuel 55 [c0, c1] = some (d, p) := hf
  obtain ⟨a, b, ⟨e0, e1⟩, h0, h1⟩ := skips_of_trod hf'
  subst e0 e1
  exact ⟨⟨a, b⟩, rfl, h0, h1⟩
structure WhoseV where
  client : Bool
  none_ : Bool
  skip : Int
def WhoseArg (_w : World) (v : Value) (z : WhoseV) : Prop := v = .agg #[.bool z.client, .bool z.none_, .int .i64 z.skip] ∧ (-9223372036854775808 ≤ z.skip ∧ z.skip ≤ 9223372036854775807)
set_option maxRecDepth 100000 in
theorem whose_open {r : Reach} {b0 : Nat} {v : Value} {d : DataW H} {p : List MemPlace} (hv : Value.okWide Tryd.prog w r b0 34 v)
    (h : DataW.Trod enc Tryd.prog w base spare held 34 v d p) : ∃ z, WhoseArg w v z := by
  have hC : Tryd.prog.cellsOf 34 = 3 := by kernel_rfl
  have hh := wide3 (P := Tryd.prog) (w := w) (r := r) (b0 := b0) (t := 34) (v := v) Tryd.underlying34 hC
  have h5 := hh hv
  clear hh hC hv
  obtain ⟨c0, c1, c2, hv⟩ := h5
  subst hv
  obtain ⟨fuel, hf⟩ := h
  have hf' : DataW.trod enc Tryd.prog w base spare held fuel 34 [c0, c1, c2] = some (d, p) := hf
  obtain ⟨a, b, k, ⟨e0, e1, e2⟩, h0⟩ := whose_of_trod hf'
  subst e0 e1 e2
  exact ⟨⟨a, b, k⟩, rfl, h0⟩
end
end Go.Proofs.YthfedcebbnlmaaaDoor
