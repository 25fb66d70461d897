/-
  layer 19's arguments: culvertlaw19.Op; a script of them with its bulk
-/
import Derived.Test.YtpmmjekaefemeaaDoorOpenL
import Derived.Test.YtpmmjekaefemeaaDoorOpenB
import Derived.Test.YtpmmjekaefemeaaDoorOpenU
import Derived.OpenShut
import Derived.SizedLaws
namespace Go.Proofs.YtpmmjekaefemeaaDoor
open Go.ChangeShapes Go.WideShapes Go.RowKit Go.Deep

structure OpV19 where
  kind : Int
  sl : Value
  ns : List Int
  n : Int
instance : Inhabited OpV19 := ⟨⟨0, .slice none 0 0, [], 0⟩⟩
def OpV19.cells (z : OpV19) : List Value := [.int .i64 z.kind, z.sl, .int .i64 z.n]
/-- what is known of an op -/
def Op19Ok (w : World) (bulk : Nat) (z : OpV19) (cs : List Value) : Prop := cs = z.cells ∧ Rd w z.sl z.ns ∧ AreBytes z.ns ∧ z.ns.length ≤ 140737488351232 ∧ z.ns.length ≤ bulk

section
variable {H : Type} {enc : TypeId × Value → H} {w : World} {base : Nat} {spare : Nat → Bool} {held : Bool}
theorem list3 {α : Type} {cs : List α} (h : cs.length = 3) : ∃ c0 c1 c2, cs = [c0, c1, c2] := by
  match cs, h with
  | [c0, c1, c2], _ => exact ⟨c0, c1, c2, rfl⟩
set_option maxRecDepth 100000 in
theorem op19_of_trod {fuel : Nat} {cs : List Value} {x : DataW H × List MemPlace} (hl : cs.length = 3) (h : DataW.trod enc Tryd.prog w base spare held fuel 32 cs = some x) (hw : ∀ n ∈ x.1.weights Tryd.prog 32, n ≤ 140737488351232) : ∃ z, Op19Ok w (Rows.uptoBulk x.1) z cs := by
  obtain ⟨c0, c1, c2, rfl⟩ := list3 hl
  have hCI : Tryd.prog.cellsOf 3 = 1 := by kernel_rfl
  have hCB : Tryd.prog.cellsOf 26 = 1 := by kernel_rfl
  obtain ⟨xs, n', _, hDx, _, hxl, hfl⟩ := DataW.trod_struct Tryd.underlying32 h
  have hxl3 : xs.length = 3 := hxl
  have t0 : DataW.trod enc Tryd.prog w base spare held n' 3 (([c0, c1, c2].drop 0).take (Tryd.prog.cellsOf 3)) = xs[0]? := hfl 0 _ rfl
  have t1 : DataW.trod enc Tryd.prog w base spare held n' 26 (([c0, c1, c2].drop 1).take (Tryd.prog.cellsOf 26)) = xs[1]? := hfl 1 _ rfl
  have t2 : DataW.trod enc Tryd.prog w base spare held n' 3 (([c0, c1, c2].drop 2).take (Tryd.prog.cellsOf 3)) = xs[2]? := hfl 2 _ rfl
  simp only [hCI, hCB, List.drop_zero, List.drop_succ_cons, List.take_succ_cons, List.take_zero] at t0 t1 t2
  match xs, hxl3 with
  | [x0, x1, x2], _ =>
    simp only [List.getElem?_cons_zero, List.getElem?_cons_succ] at t0 t1 t2
    obtain ⟨k, e0, _⟩ := open_int1 Tryd.underlying3 t0
    obtain ⟨m, e2, _⟩ := open_int1 Tryd.underlying3 t2
    have hx1 : x.1 = .agg [x0.1, x1.1, x2.1] := congrArg Prod.fst hDx
    obtain ⟨ns, hr, hb, hl1⟩ := bytes_of_trod t1 (fun k hk => hw k (by
      rw [hx1]
      simp only [DataW.weights, Tryd.underlying32]
      exact DataW.weights_mem_each (j := 1) (t := 26) (d := x1.1) rfl rfl k hk))
    obtain ⟨q, c, e⟩ := hr.shape
    have hl2 := ints_bulk Tryd.underlying26 Tryd.underlying5 (by kernel_rfl) t1 e
    subst e0 e2
    refine ⟨⟨k, c1, ns, m⟩, rfl, hr, hb, hl1, ?_⟩
    rw [hx1]
    simp only [Rows.uptoBulk, Rows.uptoBulkAll]
    omega
def Op19Arg (w : World) (v : Value) (z : OpV19) : Prop := v = .agg z.cells.toArray ∧ ∃ b, Op19Ok w b z z.cells
set_option maxRecDepth 100000 in
theorem op19_open {r : Reach} {b0 : Nat} {v : Value} {d : DataW H} {p : List MemPlace} (hv : Value.okWide Tryd.prog w r b0 32 v)
    (h : DataW.Trod enc Tryd.prog w base spare held 32 v d p) (hw : ∀ n ∈ d.weights Tryd.prog 32, n ≤ 140737488351232) : ∃ z, Op19Arg w v z := by
  have hC : Tryd.prog.cellsOf 32 = 3 := by kernel_rfl
  obtain ⟨cs, rfl, hsz⟩ := okWide_struct Tryd.underlying32 hv
  obtain ⟨l⟩ := cs
  obtain ⟨fuel, hf⟩ := h
  have hl : l.length = 3 := by rw [hC] at hsz; simpa using hsz
  have hf' : DataW.trod enc Tryd.prog w base spare held fuel 32 l = some (d, p) := hf
  obtain ⟨z, hz⟩ := op19_of_trod hl hf' hw
  have e := hz.1
  subst e
  exact ⟨z, rfl, _, hz⟩
def Ops19ArgU (w : World) (v : Value) (zs : List OpV19) : Prop := zs.length ≤ 1048576 ∧ ListAt (Op19Ok w 1048576) 3 w v zs
theorem ops19_openU {fuel : Nat} {v : Value} {x : DataW H × List MemPlace} (h : DataW.trod enc Tryd.prog w base spare held fuel 22 [v] = some x) (hw : ∀ n ∈ x.1.weights Tryd.prog 22, n ≤ 140737488351232) (hk : Rows.uptoBulk x.1 ≤ 1048576) : ∃ zs, Ops19ArgU w v zs := by
  obtain ⟨zs, h1, h2⟩ := open_list (k := 3) (by decide) Tryd.underlying22 (by kernel_rfl) (Op19Ok w 1048576) (fun fuel cs y hl hy hw' hb => by
    obtain ⟨z, e, a1, a2, a3, a4⟩ := op19_of_trod hl hy hw'
    exact ⟨z, e, a1, a2, a3, Nat.le_trans a4 (Nat.le_trans hb hk)⟩) h hw
  exact ⟨zs, Nat.le_trans h1 hk, h2⟩
end
end Go.Proofs.YtpmmjekaefemeaaDoor
