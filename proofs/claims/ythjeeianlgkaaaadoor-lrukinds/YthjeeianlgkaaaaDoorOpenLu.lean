/-
  layer 28's arguments: a script of culvertlaw28.Op
-/
import Derived.Test.YthjeeianlgkaaaaDoorOpenL
import Derived.Test.YthjeeianlgkaaaaDoorLuP
import Derived.Test.YthjeeianlgkaaaaDoorCodedZ
import Derived.OpenShut
import Derived.SizedLaws
namespace Go.Proofs.YthjeeianlgkaaaaDoor
open Go.ChangeShapes Go.WideShapes Go.RowKit Go.Deep

structure Oz where
  kd : Int
  k : Int
  v : Int
  w : Int
  u : Int
instance : Inhabited Oz := ⟨⟨0, 0, 0, 0, 0⟩⟩
structure Oz.Ok (z : Oz) : Prop where
  kd : I6 z.kd
  k : I6 z.k
  v : I6 z.v
  w : I6 z.w
  u : I6 z.u
abbrev Oz.cells (z : Oz) : List Value := [.int .i64 z.kd, .int .i64 z.k, .int .i64 z.v, .int .i64 z.w, .int .i64 z.u]
def OzAt (z : Oz) (cs : List Value) : Prop := cs = z.cells ∧ z.Ok

theorem lu_wf {z : Int} (h : (Lit.int .i64 z).wf = true) : I6 z := by
  have h1 : IntKind.min .i64 = -9223372036854775808 := by decide
  have h2 : IntKind.max .i64 = 9223372036854775807 := by decide
  simp only [Lit.wf, h1, h2, Bool.and_eq_true, decide_eq_true_eq] at h
  exact h
section
variable {H : Type} {enc : TypeId × Value → H} {w w' : World} {base : Nat} {spare : Nat → Bool} {held : Bool}
theorem lu_list5 {α : Type} {cs : List α} (h : cs.length = 5) : ∃ c0 c1 c2 c3 c4, cs = [c0, c1, c2, c3, c4] := by
  match cs, h with
  | [c0, c1, c2, c3, c4], _ => exact ⟨c0, c1, c2, c3, c4, rfl⟩
set_option maxRecDepth 100000 in
theorem oz_of_trod {fuel : Nat} {cs : List Value} {x : DataW H × List MemPlace} (hl : cs.length = 5) (h : DataW.trod enc Tryd.prog w base spare held fuel 32 cs = some x) : ∃ z, OzAt z cs := by
  obtain ⟨c0, c1, c2, c3, c4, rfl⟩ := lu_list5 hl
  have hCI : Tryd.prog.cellsOf 3 = 1 := by kernel_rfl
  obtain ⟨xs, n', _, hDx, _, hxl, hfl⟩ := DataW.trod_struct Tryd.underlying32 h
  have hxl5 : xs.length = 5 := hxl
  have t0 : DataW.trod enc Tryd.prog w base spare held n' 3 (([c0, c1, c2, c3, c4].drop 0).take (Tryd.prog.cellsOf 3)) = xs[0]? := hfl 0 _ rfl
  have t1 : DataW.trod enc Tryd.prog w base spare held n' 3 (([c0, c1, c2, c3, c4].drop 1).take (Tryd.prog.cellsOf 3)) = xs[1]? := hfl 1 _ rfl
  have t2 : DataW.trod enc Tryd.prog w base spare held n' 3 (([c0, c1, c2, c3, c4].drop 2).take (Tryd.prog.cellsOf 3)) = xs[2]? := hfl 2 _ rfl
  have t3 : DataW.trod enc Tryd.prog w base spare held n' 3 (([c0, c1, c2, c3, c4].drop 3).take (Tryd.prog.cellsOf 3)) = xs[3]? := hfl 3 _ rfl
  have t4 : DataW.trod enc Tryd.prog w base spare held n' 3 (([c0, c1, c2, c3, c4].drop 4).take (Tryd.prog.cellsOf 3)) = xs[4]? := hfl 4 _ rfl
  simp only [hCI, List.drop_zero, List.drop_succ_cons, List.take_succ_cons, List.take_zero] at t0 t1 t2 t3 t4
  match xs, hxl5 with
  | [x0, x1, x2, x3, x4], _ =>
    simp only [List.getElem?_cons_zero, List.getElem?_cons_succ] at t0 t1 t2 t3 t4
    obtain ⟨a0, e0, w0⟩ := open_int1 Tryd.underlying3 t0
    obtain ⟨a1, e1, w1⟩ := open_int1 Tryd.underlying3 t1
    obtain ⟨a2, e2, w2⟩ := open_int1 Tryd.underlying3 t2
    obtain ⟨a3, e3, w3⟩ := open_int1 Tryd.underlying3 t3
    obtain ⟨a4, e4, w4⟩ := open_int1 Tryd.underlying3 t4
    subst e0 e1 e2 e3 e4
    exact ⟨⟨a0, a1, a2, a3, a4⟩, rfl, lu_wf w0, lu_wf w1, lu_wf w2, lu_wf w3, lu_wf w4⟩
theorem lu_len_bound {P : Program} {t e : TypeId} {fuel l c by_ : Nat} {q : Option Addr} {x : DataW H × List MemPlace} (ht : P.underlying t = some (.slice e)) (hby : P.bytesOf e = by_) (h : DataW.trod enc P w base spare held fuel t [.slice q l c] = some x) (hw : ∀ n ∈ x.1.weights P t, n ≤ 140737488351232) : l * by_ ≤ 140737488351232 := by
  rcases open_slice ht h with ⟨hv, _⟩ | ⟨a, len, cap, m, n, D, Pl, hv, hb, hl, hm, hmm, rfl, hx⟩
  · simp at hv
    rw [hv.2.1, Nat.zero_mul]
    exact Nat.zero_le _
  · simp at hv
    obtain ⟨_, rfl, _⟩ := hv
    have := hw _ (by simp only [DataW.weights, ht]; exact List.mem_cons_self ..)
    rw [hby, List.length_map, List.length_range, Nat.add_mul] at this
    omega
def Ops28Arg (w : World) (v : Value) (zs : List Oz) : Prop := ListAt OzAt 5 w v zs ∧ zs.length * 40 ≤ 140737488351232
def Ops28ArgU (w : World) (v : Value) (zs : List Oz) : Prop := ListAt OzAt 5 w v zs ∧ zs.length ≤ 1048576
set_option maxRecDepth 100000 in
theorem ops28_open {fuel : Nat} {v : Value} {x : DataW H × List MemPlace} (h : DataW.trod enc Tryd.prog w base spare held fuel 22 [v] = some x) (hw : ∀ n ∈ x.1.weights Tryd.prog 22, n ≤ 140737488351232) : ∃ zs, Ops28Arg w v zs := by
  obtain ⟨zs, h1, h2⟩ := open_list (k := 5) (by decide) Tryd.underlying22 (by kernel_rfl) OzAt (fun fuel cs y hl hy hw' hb => oz_of_trod hl hy) h hw
  refine ⟨zs, h2, ?_⟩
  obtain ⟨a, cap, rfl, _⟩ := h2
  exact lu_len_bound Tryd.underlying22 (by kernel_rfl) h hw
set_option maxRecDepth 100000 in
theorem ops28_openU {fuel : Nat} {v : Value} {x : DataW H × List MemPlace} (h : DataW.trod enc Tryd.prog w base spare held fuel 22 [v] = some x) (hw : ∀ n ∈ x.1.weights Tryd.prog 22, n ≤ 140737488351232) (hk : Rows.uptoBulk x.1 ≤ 1048576) : ∃ zs, Ops28ArgU w v zs := by
  obtain ⟨zs, h1, h2⟩ := open_list (k := 5) (by decide) Tryd.underlying22 (by kernel_rfl) OzAt (fun fuel cs y hl hy hw' hb => oz_of_trod hl hy) h hw
  exact ⟨zs, h2, Nat.le_trans h1 hk⟩
/-- an op of a script -/
structure OpA (w : World) (b q : Nat) (z : Oz) : Prop where
  c0 : w.cell? ⟨b, q, none⟩ = some (.int .i64 z.kd)
  c1 : w.cell? ⟨b, q + 1, none⟩ = some (.int .i64 z.k)
  c2 : w.cell? ⟨b, q + 2, none⟩ = some (.int .i64 z.v)
  c3 : w.cell? ⟨b, q + 3, none⟩ = some (.int .i64 z.w)
  c4 : w.cell? ⟨b, q + 4, none⟩ = some (.int .i64 z.u)
  ok : z.Ok
theorem OpA.later {b q : Nat} {z : Oz} (h : OpA w b q z) (hk : Below w.heap.size w w') : OpA w' b q z := by
  have hb := World.block_lt_of_cell? w _ h.c0
  exact ⟨(hk.cell (p := ⟨b, q, none⟩) hb).trans h.c0, (hk.cell (p := ⟨b, q + 1, none⟩) hb).trans h.c1, (hk.cell (p := ⟨b, q + 2, none⟩) hb).trans h.c2, (hk.cell (p := ⟨b, q + 3, none⟩) hb).trans h.c3, (hk.cell (p := ⟨b, q + 4, none⟩) hb).trans h.c4, h.ok⟩
theorem oz_at {zs : List Oz} {a : Option Addr} {c i : Nat} {z : Oz} (h : ListAt OzAt 5 w (.slice a zs.length c) zs) (hi : zs[i]? = some z) :
    ∃ b o, a = some ⟨b, o, none⟩ ∧ OpA w b (o + i * 5) z := by
  obtain ⟨a', c', e, _, _, h⟩ := h
  injection e with e1 _ e2
  subst e1
  obtain ⟨b, o, cs, rfl, ⟨rfl, hz⟩, _, hc⟩ := h i z hi
  exact ⟨b, o, rfl, hc 0 (by decide), hc 1 (by decide), hc 2 (by decide), hc 3 (by decide), hc 4 (by decide), hz⟩
end
end Go.Proofs.YthjeeianlgkaaaaDoor
