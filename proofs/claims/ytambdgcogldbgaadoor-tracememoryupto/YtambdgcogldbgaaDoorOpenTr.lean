/-
  layer 24's arguments: culvertlaw24.Op; a script of them with its bulk
-/
import Derived.Test.YtambdgcogldbgaaDoorTrM
import Derived.Test.YtambdgcogldbgaaDoorOpenL
import Derived.Test.YtambdgcogldbgaaDoorOpenB
import Derived.Test.YtambdgcogldbgaaDoorOpenU
import Derived.OpenShut
import Derived.SizedLaws
namespace Go.Proofs.YtambdgcogldbgaaDoor
open Go.ChangeShapes Go.WideShapes Go.RowKit Go.Deep

structure OpV24 where
  kind : Int
  key : Int
  n : Int
  next : Bool
  sl : Value
  ns : List Int
instance : Inhabited OpV24 := ⟨⟨0, 0, 0, false, .slice none 0 0, []⟩⟩
def OpV24.cells (z : OpV24) : List Value := [.int .i64 z.kind, .int .i64 z.key, .int .i64 z.n, .bool z.next, z.sl]
/-- what is known of an op -/
def Op24Ok (w : World) (bulk : Nat) (z : OpV24) (cs : List Value) : Prop := cs = z.cells ∧ Rd w z.sl z.ns ∧ AreBytes z.ns ∧ z.ns.length ≤ 140737488351232 ∧ z.ns.length ≤ bulk ∧ Zw z.key ∧ Zw z.n

section
variable {H : Type} {enc : TypeId × Value → H} {w : World} {base : Nat} {spare : Nat → Bool} {held : Bool}
theorem list5 {α : Type} {cs : List α} (h : cs.length = 5) : ∃ c0 c1 c2 c3 c4, cs = [c0, c1, c2, c3, c4] := by
  match cs, h with
  | [c0, c1, c2, c3, c4], _ => exact ⟨c0, c1, c2, c3, c4, rfl⟩
set_option maxRecDepth 100000 in
theorem op24_of_trod {fuel : Nat} {cs : List Value} {x : DataW H × List MemPlace} (hl : cs.length = 5) (h : DataW.trod enc Tryd.prog w base spare held fuel 31 cs = some x) (hw : ∀ n ∈ x.1.weights Tryd.prog 31, n ≤ 140737488351232) : ∃ z, Op24Ok w (Rows.uptoBulk x.1) z cs := by
  obtain ⟨c0, c1, c2, c3, c4, rfl⟩ := list5 hl
  have hCI : Tryd.prog.cellsOf 3 = 1 := by kernel_rfl
  have hCO : Tryd.prog.cellsOf 4 = 1 := by kernel_rfl
  have hCB : Tryd.prog.cellsOf 29 = 1 := by kernel_rfl
  obtain ⟨xs, n', _, hDx, _, hxl, hfl⟩ := DataW.trod_struct Tryd.underlying31 h
  have hxl3 : xs.length = 5 := hxl
  have t0 : DataW.trod enc Tryd.prog w base spare held n' 3 (([c0, c1, c2, c3, c4].drop 0).take (Tryd.prog.cellsOf 3)) = xs[0]? := hfl 0 _ rfl
  have t1 : DataW.trod enc Tryd.prog w base spare held n' 3 (([c0, c1, c2, c3, c4].drop 1).take (Tryd.prog.cellsOf 3)) = xs[1]? := hfl 1 _ rfl
  have t2 : DataW.trod enc Tryd.prog w base spare held n' 3 (([c0, c1, c2, c3, c4].drop 2).take (Tryd.prog.cellsOf 3)) = xs[2]? := hfl 2 _ rfl
  have t3 : DataW.trod enc Tryd.prog w base spare held n' 4 (([c0, c1, c2, c3, c4].drop 3).take (Tryd.prog.cellsOf 4)) = xs[3]? := hfl 3 _ rfl
  have t4 : DataW.trod enc Tryd.prog w base spare held n' 29 (([c0, c1, c2, c3, c4].drop 4).take (Tryd.prog.cellsOf 29)) = xs[4]? := hfl 4 _ rfl
  simp only [hCI, hCB, hCO, List.drop_zero, List.drop_succ_cons, List.take_succ_cons, List.take_zero] at t0 t1 t2 t3 t4
  match xs, hxl3 with
  | [x0, x1, x2, x3, x4], _ =>
    simp only [List.getElem?_cons_zero, List.getElem?_cons_succ] at t0 t1 t2 t3 t4
    obtain ⟨k, e0, _⟩ := open_int1 Tryd.underlying3 t0
    obtain ⟨key, e1, w1⟩ := open_int1 Tryd.underlying3 t1
    obtain ⟨m, e2, w2⟩ := open_int1 Tryd.underlying3 t2
    obtain ⟨nx, e3, _⟩ := DataW.trod_bool Tryd.underlying4 t3
    obtain rfl : c3 = .bool nx := by simpa using e3
    have hx1 : x.1 = .agg [x0.1, x1.1, x2.1, x3.1, x4.1] := congrArg Prod.fst hDx
    obtain ⟨ns, hr, hb, hl1⟩ := bytes_of_trod t4 (fun k hk => hw k (by
      rw [hx1]
      simp only [DataW.weights, Tryd.underlying31]
      exact DataW.weights_mem_each (j := 4) (t := 29) (d := x4.1) rfl rfl k hk))
    obtain ⟨q, c, e⟩ := hr.shape
    have hl2 := ints_bulk Tryd.underlying29 Tryd.underlying5 (by kernel_rfl) t4 e
    subst e0 e1 e2
    refine ⟨⟨k, key, m, nx, c4, ns⟩, rfl, hr, hb, hl1, ?_, of_wf_i64 w1, of_wf_i64 w2⟩
    rw [hx1]
    simp only [Rows.uptoBulk, Rows.uptoBulkAll]
    omega
def Ops24ArgU (w : World) (v : Value) (zs : List OpV24) : Prop := zs.length ≤ 1048576 ∧ ListAt (Op24Ok w 1048576) 5 w v zs
theorem ops24_openU {fuel : Nat} {v : Value} {x : DataW H × List MemPlace} (h : DataW.trod enc Tryd.prog w base spare held fuel 22 [v] = some x) (hw : ∀ n ∈ x.1.weights Tryd.prog 22, n ≤ 140737488351232) (hk : Rows.uptoBulk x.1 ≤ 1048576) : ∃ zs, Ops24ArgU w v zs := by
  obtain ⟨zs, h1, h2⟩ := open_list (k := 5) (by decide) Tryd.underlying22 (by kernel_rfl) (Op24Ok w 1048576) (fun fuel cs y hl hy hw' hb => by
    obtain ⟨z, e, a1, a2, a3, a4, a5, a6⟩ := op24_of_trod hl hy hw'
    exact ⟨z, e, a1, a2, a3, Nat.le_trans a4 (Nat.le_trans hb hk), a5, a6⟩) h hw
  exact ⟨zs, Nat.le_trans h1 hk, h2⟩
theorem op24_cells {zs : List OpV24} {a : Option Addr} {c i bulk : Nat} {z : OpV24} (h : ListAt (Op24Ok w bulk) 5 w (.slice a zs.length c) zs) (hi : zs[i]? = some z) :
    ∃ b o, a = some ⟨b, o, none⟩ ∧ Aside (w.cell? ⟨b, o + i * 5, none⟩ = some (.int .i64 z.kind) ∧ w.cell? ⟨b, o + i * 5 + 1, none⟩ = some (.int .i64 z.key) ∧ w.cell? ⟨b, o + i * 5 + 2, none⟩ = some (.int .i64 z.n) ∧ w.cell? ⟨b, o + i * 5 + 3, none⟩ = some (.bool z.next) ∧ w.cell? ⟨b, o + i * 5 + 4, none⟩ = some z.sl) ∧ Rd w z.sl z.ns ∧ AreBytes z.ns ∧ z.ns.length ≤ bulk ∧ Zw z.key ∧ Zw z.n := by
  obtain ⟨a', c', e, _, _, h⟩ := h
  injection e with e1 _ e2
  subst e1
  obtain ⟨b, o, cs, rfl, ⟨rfl, h1, h2, h3, h4, h5, h6⟩, _, hc⟩ := h i z hi
  exact ⟨b, o, rfl, ⟨hc 0 (by decide), hc 1 (by decide), hc 2 (by decide), hc 3 (by decide), hc 4 (by decide)⟩, h1, h2, h4, h5, h6⟩
end
end Go.Proofs.YtambdgcogldbgaaDoor
