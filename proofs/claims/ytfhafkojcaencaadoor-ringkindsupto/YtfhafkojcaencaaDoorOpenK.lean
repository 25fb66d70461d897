/-
  culvertlaw02.Op among the arguments: a list of them, with their bulk.
-/
import Derived.Test.YtfhafkojcaencaaDoorOpenL
import Derived.Test.YtfhafkojcaencaaDoorRdI
import Derived.OpenShut
import Derived.SizedLaws
namespace Go.Proofs.YtfhafkojcaencaaDoor
open Go.ChangeShapes Go.WideShapes Go.RowKit Go.Deep

structure OpK where
  kind : Int
  at' : Int
  n : Int
  sl : Value
  items : List Int
instance : Inhabited OpK := ⟨⟨0, 0, 0, .slice none 0 0, []⟩⟩
def OpK.cells (z : OpK) : List Value := [.int .i64 z.kind, .int .i64 z.at', .int .i64 z.n, z.sl]
def OpKOk (w : World) (B : Nat) (z : OpK) (cs : List Value) : Prop := cs = z.cells ∧ RdI w z.sl z.items ∧ z.items.length ≤ B
def IntKOk (z : Int) (cs : List Value) : Prop := cs = [.int .i64 z] ∧ (-9223372036854775808 ≤ z ∧ z ≤ 9223372036854775807)
section
variable {H : Type} {enc : TypeId × Value → H} {w : World} {base : Nat} {spare : Nat → Bool} {held : Bool}
theorem four4 {α : Type} {cs : List α} (h : cs.length = 4) : ∃ c0 c1 c2 c3, cs = [c0, c1, c2, c3] := by
  match cs, h with
  | [c0, c1, c2, c3], _ => exact ⟨c0, c1, c2, c3, rfl⟩
theorem loneK {α : Type} {cs : List α} (h : cs.length = 1) : ∃ c0, cs = [c0] := by
  match cs, h with
  | [c0], _ => exact ⟨c0, rfl⟩
set_option maxRecDepth 100000 in
theorem intsK_of_trod {fuel : Nat} {v : Value} {x : DataW H × List MemPlace} (h : DataW.trod enc Tryd.prog w base spare held fuel 32 [v] = some x) (hw : ∀ n ∈ x.1.weights Tryd.prog 32, n ≤ 140737488351232) : ∃ zs, RdI w v zs ∧ zs.length ≤ Rows.uptoBulk x.1 := by
  obtain ⟨zs, h1, ⟨a, cap, e, h2, h3, h4⟩⟩ := open_list (k := 1) (by decide) Tryd.underlying32 (by kernel_rfl) IntKOk (fun fuel cs y hl hy hw' hb => by
    obtain ⟨c0, rfl⟩ := loneK hl
    obtain ⟨n, e, w1⟩ := open_int1 Tryd.underlying3 hy
    subst e
    exact ⟨n, rfl, bounds_i64 w1⟩) h hw
  refine ⟨zs, ⟨a, cap, e, h2, h3, fun k z hk => ?_⟩, h1⟩
  obtain ⟨b, o, cs, ha, hok, hl, hc⟩ := h4 k z hk
  have e1 := hok.1
  subst e1
  have h0 := hc 0 (by decide)
  rw [Nat.mul_one, Nat.add_zero] at h0
  exact ⟨hok.2, b, o, ha, h0⟩
set_option maxRecDepth 100000 in
theorem opK_of_trod {fuel : Nat} {cs : List Value} {x : DataW H × List MemPlace} (hl : cs.length = 4) (h : DataW.trod enc Tryd.prog w base spare held fuel 34 cs = some x) (hw : ∀ n ∈ x.1.weights Tryd.prog 34, n ≤ 140737488351232) : ∃ z, OpKOk w (Rows.uptoBulk x.1) z cs := by
  obtain ⟨c0, c1, c2, c3, rfl⟩ := four4 hl
  have hCI : Tryd.prog.cellsOf 3 = 1 := by kernel_rfl
  have hCS : Tryd.prog.cellsOf 32 = 1 := by kernel_rfl
  obtain ⟨xs, n', _, hDx, _, hxl, hfl⟩ := DataW.trod_struct Tryd.underlying34 h
  have hxl3 : xs.length = 4 := hxl
  have t0 : DataW.trod enc Tryd.prog w base spare held n' 3 (([c0, c1, c2, c3].drop 0).take (Tryd.prog.cellsOf 3)) = xs[0]? := hfl 0 _ rfl
  have t1 : DataW.trod enc Tryd.prog w base spare held n' 3 (([c0, c1, c2, c3].drop 1).take (Tryd.prog.cellsOf 3)) = xs[1]? := hfl 1 _ rfl
  have t2 : DataW.trod enc Tryd.prog w base spare held n' 3 (([c0, c1, c2, c3].drop 2).take (Tryd.prog.cellsOf 3)) = xs[2]? := hfl 2 _ rfl
  have t3 : DataW.trod enc Tryd.prog w base spare held n' 32 (([c0, c1, c2, c3].drop 3).take (Tryd.prog.cellsOf 32)) = xs[3]? := hfl 3 _ rfl
  simp only [hCI, hCS, List.drop_zero, List.drop_succ_cons, List.take_succ_cons, List.take_zero] at t0 t1 t2 t3
  match xs, hxl3 with
  | [x0, x1, x2, x3], _ =>
    simp only [List.getElem?_cons_zero, List.getElem?_cons_succ] at t0 t1 t2 t3
    obtain ⟨k0, e0, _⟩ := open_int1 Tryd.underlying3 t0
    obtain ⟨k1, e1, _⟩ := open_int1 Tryd.underlying3 t1
    obtain ⟨k2, e2, _⟩ := open_int1 Tryd.underlying3 t2
    have hx1 : x.1 = .agg [x0.1, x1.1, x2.1, x3.1] := congrArg Prod.fst hDx
    obtain ⟨ns, hr, hln⟩ := intsK_of_trod t3 (fun k hk => hw k (by
      rw [hx1]
      simp only [DataW.weights, Tryd.underlying34]
      exact DataW.weights_mem_each (j := 3) (t := 32) (d := x3.1) rfl rfl k hk))
    subst e0 e1 e2
    refine ⟨⟨k0, k1, k2, c3, ns⟩, rfl, hr, ?_⟩
    rw [hx1]
    simp only [Rows.uptoBulk, Rows.uptoBulkAll]
    omega
def OpsKArg (w : World) (v : Value) (zs : List OpK) : Prop := ListAt (OpKOk w 1048576) 4 w v zs ∧ zs.length ≤ 1048576
set_option maxRecDepth 100000 in
theorem opsK_open {fuel : Nat} {v : Value} {x : DataW H × List MemPlace} (h : DataW.trod enc Tryd.prog w base spare held fuel 22 [v] = some x) (hw : ∀ n ∈ x.1.weights Tryd.prog 22, n ≤ 140737488351232) (hk : Rows.uptoBulk x.1 ≤ 1048576) : ∃ zs, OpsKArg w v zs := by
  obtain ⟨zs, h1, h2⟩ := open_list (k := 4) (by decide) Tryd.underlying22 (by kernel_rfl) (OpKOk w 1048576) (fun fuel cs y hl hy hw' hb => by
    obtain ⟨z, e, hr, hln⟩ := opK_of_trod hl hy hw'
    exact ⟨z, e, hr, by omega⟩) h hw
  exact ⟨zs, h2, Nat.le_trans h1 hk⟩
end
end Go.Proofs.YtfhafkojcaencaaDoor
