/-
  layer 22's arguments: a culvertlaw22.Op, a script of them
-/
import Derived.Test.YtjloedcikcamkaaDoorOpenL
import Derived.Test.YtjloedcikcamkaaDoorHnM
import Derived.OpenShut
import Derived.SizedLaws
namespace Go.Proofs.YtjloedcikcamkaaDoor
open Go.ChangeShapes Go.WideShapes Go.RowKit Go.Deep

structure OpV22 where
  kind : Int
  p : Pl
  h : Int
instance : Inhabited OpV22 := ⟨⟨0, ⟨0, 0, 0⟩, 0⟩⟩
abbrev OpV22.cells (z : OpV22) : List Value := [.int .i64 z.kind, .int .i64 z.p.c, .int .i64 z.p.l, .int .u32 (z.p.d : Nat), .int .i64 z.h]
def Op22Ok (z : OpV22) (cs : List Value) : Prop := cs = z.cells ∧ z.p.Wide ∧ Zw z.h

section
variable {H : Type} {enc : TypeId × Value → H} {w : World} {base : Nat} {spare : Nat → Bool} {held : Bool}
theorem list5 {α : Type} {cs : List α} (h : cs.length = 5) : ∃ c0 c1 c2 c3 c4, cs = [c0, c1, c2, c3, c4] := by
  match cs, h with
  | [c0, c1, c2, c3, c4], _ => exact ⟨c0, c1, c2, c3, c4, rfl⟩
set_option maxRecDepth 100000 in
theorem place_of_trod {fuel : Nat} {c0 c1 c2 : Value} {x : DataW H × List MemPlace} (h : DataW.trod enc Tryd.prog w base spare held fuel 33 [c0, c1, c2] = some x) : ∃ p : Pl, p.Wide ∧ c0 = .int .i64 p.c ∧ c1 = .int .i64 p.l ∧ c2 = .int .u32 (p.d : Nat) := by
  have hCI : Tryd.prog.cellsOf 3 = 1 := by kernel_rfl
  have hCU : Tryd.prog.cellsOf 31 = 1 := by kernel_rfl
  obtain ⟨xs, n', _, hDx, _, hxl, hfl⟩ := DataW.trod_struct Tryd.underlying33 h
  have hxl3 : xs.length = 3 := hxl
  have t0 : DataW.trod enc Tryd.prog w base spare held n' 3 (([c0, c1, c2].drop 0).take (Tryd.prog.cellsOf 3)) = xs[0]? := hfl 0 _ rfl
  have t1 : DataW.trod enc Tryd.prog w base spare held n' 3 (([c0, c1, c2].drop 1).take (Tryd.prog.cellsOf 3)) = xs[1]? := hfl 1 _ rfl
  have t2 : DataW.trod enc Tryd.prog w base spare held n' 31 (([c0, c1, c2].drop 2).take (Tryd.prog.cellsOf 31)) = xs[2]? := hfl 2 _ rfl
  simp only [hCI, hCU, List.drop_zero, List.drop_succ_cons, List.take_succ_cons, List.take_zero] at t0 t1 t2
  match xs, hxl3 with
  | [x0, x1, x2], _ =>
    simp only [List.getElem?_cons_zero, List.getElem?_cons_succ] at t0 t1 t2
    obtain ⟨a, e0, w0⟩ := open_int1 Tryd.underlying3 t0
    obtain ⟨b, e1, w1⟩ := open_int1 Tryd.underlying3 t1
    obtain ⟨m, e2, w2⟩ := open_int1 Tryd.underlying31 t2
    subst e0 e1 e2
    have hb := bounds_u32 w2
    obtain ⟨m', rfl⟩ : ∃ m' : Nat, m = m' := ⟨m.toNat, by omega⟩
    have h0 := of_wf_i64 w0
    have h1 := of_wf_i64 w1
    exact ⟨⟨a, b, m'⟩, ⟨h0.1, h0.2, h1.1, h1.2, by have := hb.2; show m' ≤ _; omega⟩, rfl, rfl, rfl⟩
set_option maxRecDepth 100000 in
theorem op22_of_trod {fuel : Nat} {cs : List Value} {x : DataW H × List MemPlace} (hl : cs.length = 5) (h : DataW.trod enc Tryd.prog w base spare held fuel 35 cs = some x) : ∃ z, Op22Ok z cs := by
  obtain ⟨c0, c1, c2, c3, c4, rfl⟩ := list5 hl
  have hCI : Tryd.prog.cellsOf 3 = 1 := by kernel_rfl
  have hCP : Tryd.prog.cellsOf 33 = 3 := by kernel_rfl
  obtain ⟨xs, n', _, hDx, _, hxl, hfl⟩ := DataW.trod_struct Tryd.underlying35 h
  have hxl3 : xs.length = 3 := hxl
  have t0 : DataW.trod enc Tryd.prog w base spare held n' 3 (([c0, c1, c2, c3, c4].drop 0).take (Tryd.prog.cellsOf 3)) = xs[0]? := hfl 0 _ rfl
  have t1 : DataW.trod enc Tryd.prog w base spare held n' 33 (([c0, c1, c2, c3, c4].drop 1).take (Tryd.prog.cellsOf 33)) = xs[1]? := hfl 1 _ rfl
  have t2 : DataW.trod enc Tryd.prog w base spare held n' 3 (([c0, c1, c2, c3, c4].drop 4).take (Tryd.prog.cellsOf 3)) = xs[2]? := hfl 2 _ rfl
  simp only [hCI, hCP, List.drop_zero, List.drop_succ_cons, List.take_succ_cons, List.take_zero] at t0 t1 t2
  match xs, hxl3 with
  | [x0, x1, x2], _ =>
    simp only [List.getElem?_cons_zero, List.getElem?_cons_succ] at t0 t1 t2
    obtain ⟨a, e0, w0⟩ := open_int1 Tryd.underlying3 t0
    obtain ⟨p, hp, e1, e2, e3⟩ := place_of_trod t1
    obtain ⟨b, e4, w4⟩ := open_int1 Tryd.underlying3 t2
    subst e0 e1 e2 e3 e4
    exact ⟨⟨a, p, b⟩, rfl, hp, of_wf_i64 w4⟩
theorem len_bound {P : Program} {t e : TypeId} {fuel l c by_ : Nat} {q : Option Addr} {x : DataW H × List MemPlace} (ht : P.underlying t = some (.slice e)) (hby : P.bytesOf e = by_) (h : DataW.trod enc P w base spare held fuel t [.slice q l c] = some x) (hw : ∀ n ∈ x.1.weights P t, n ≤ 140737488351232) : l * by_ ≤ 140737488351232 := by
  rcases open_slice ht h with ⟨hv, _⟩ | ⟨a, len, cap, m, n, D, Pl, hv, hb, hl, hm, hmm, rfl, hx⟩
  · simp at hv
    rw [hv.2.1, Nat.zero_mul]
    exact Nat.zero_le _
  · simp at hv
    obtain ⟨_, rfl, _⟩ := hv
    have := hw _ (by simp only [DataW.weights, ht]; exact List.mem_cons_self ..)
    rw [hby, List.length_map, List.length_range, Nat.add_mul] at this
    omega
def Ops22Arg (w : World) (v : Value) (zs : List OpV22) : Prop := ListAt Op22Ok 5 w v zs ∧ zs.length * 40 ≤ 140737488351232
def Ops22ArgU (w : World) (v : Value) (zs : List OpV22) : Prop := ListAt Op22Ok 5 w v zs ∧ zs.length ≤ 1048576
set_option maxRecDepth 100000 in
theorem ops22_open {fuel : Nat} {v : Value} {x : DataW H × List MemPlace} (h : DataW.trod enc Tryd.prog w base spare held fuel 22 [v] = some x) (hw : ∀ n ∈ x.1.weights Tryd.prog 22, n ≤ 140737488351232) : ∃ zs, Ops22Arg w v zs := by
  obtain ⟨zs, h1, h2⟩ := open_list (k := 5) (by decide) Tryd.underlying22 (by kernel_rfl) Op22Ok (fun fuel cs y hl hy hw' hb => op22_of_trod hl hy) h hw
  refine ⟨zs, h2, ?_⟩
  obtain ⟨a, cap, rfl, _⟩ := h2
  exact len_bound Tryd.underlying22 (by kernel_rfl) h hw
set_option maxRecDepth 100000 in
theorem ops22_openU {fuel : Nat} {v : Value} {x : DataW H × List MemPlace} (h : DataW.trod enc Tryd.prog w base spare held fuel 22 [v] = some x) (hw : ∀ n ∈ x.1.weights Tryd.prog 22, n ≤ 140737488351232) (hk : Rows.uptoBulk x.1 ≤ 1048576) : ∃ zs, Ops22ArgU w v zs := by
  obtain ⟨zs, h1, h2⟩ := open_list (k := 5) (by decide) Tryd.underlying22 (by kernel_rfl) Op22Ok (fun fuel cs y hl hy hw' hb => op22_of_trod hl hy) h hw
  exact ⟨zs, h2, Nat.le_trans h1 hk⟩
/-- an op by itself -/
def Op22Arg (_w : World) (v : Value) (z : OpV22) : Prop := v = .agg #[.int .i64 z.kind, .int .i64 z.p.c, .int .i64 z.p.l, .int .u32 (z.p.d : Nat), .int .i64 z.h] ∧ z.p.Wide ∧ Zw z.h
theorem wide5 {P : Program} {r : Reach} {b0 : Nat} {t : TypeId} {v : Value} {f0 f1 f2 : Field} (hU : P.underlying t = some (.struct #[f0, f1, f2])) (hC : P.cellsOf t = 5) (hv : Value.okWide P w r b0 t v) : ∃ c0 c1 c2 c3 c4, v = .agg #[c0, c1, c2, c3, c4] := by
  obtain ⟨cs, rfl, hsz⟩ := okWide_struct hU hv
  obtain ⟨l⟩ := cs
  match l, hsz.trans hC with
  | [c0, c1, c2, c3, c4], _ => exact ⟨c0, c1, c2, c3, c4, rfl⟩
set_option maxRecDepth 100000 in
theorem op22_open {r : Reach} {b0 : Nat} {v : Value} {d : DataW H} {p : List MemPlace} (hv : Value.okWide Tryd.prog w r b0 35 v)
    (h : DataW.Trod enc Tryd.prog w base spare held 35 v d p) : ∃ z, Op22Arg w v z := by
  have hC : Tryd.prog.cellsOf 35 = 5 := by kernel_rfl
  have hh := wide5 (P := Tryd.prog) (w := w) (r := r) (b0 := b0) (t := 35) (v := v) Tryd.underlying35 hC
  have h5 := hh hv
  clear hh hC hv
  obtain ⟨c0, c1, c2, c3, c4, hv⟩ := h5
  subst hv
  obtain ⟨fuel, hf⟩ := h
  have hf' : DataW.trod enc Tryd.prog w base spare held fuel 35 [c0, c1, c2, c3, c4] = some (d, p) := hf
  obtain ⟨z, e, hp, hz⟩ := op22_of_trod rfl hf'
  simp only [OpV22.cells, List.cons.injEq, and_true] at e
  obtain ⟨e0, e1, e2, e3, e4⟩ := e
  subst e0 e1 e2 e3 e4
  exact ⟨z, rfl, hp, hz⟩
/-- an op of a script -/
theorem op22_cells {zs : List OpV22} {a : Option Addr} {c i : Nat} {z : OpV22} (h : ListAt Op22Ok 5 w (.slice a zs.length c) zs) (hi : zs[i]? = some z) :
    ∃ b o, a = some ⟨b, o, none⟩ ∧ w.cell? ⟨b, o + i * 5, none⟩ = some (.int .i64 z.kind) ∧ w.cell? ⟨b, o + i * 5 + 1, none⟩ = some (.int .i64 z.p.c) ∧ w.cell? ⟨b, o + i * 5 + 2, none⟩ = some (.int .i64 z.p.l) ∧ w.cell? ⟨b, o + i * 5 + 3, none⟩ = some (.int .u32 (z.p.d : Nat)) ∧ w.cell? ⟨b, o + i * 5 + 4, none⟩ = some (.int .i64 z.h) ∧ z.p.Wide ∧ Zw z.h := by
  obtain ⟨a', c', e, _, _, h⟩ := h
  injection e with e1 _ e2
  subst e1
  obtain ⟨b, o, cs, rfl, ⟨rfl, hp, hz⟩, _, hc⟩ := h i z hi
  exact ⟨b, o, rfl, hc 0 (by decide), hc 1 (by decide), hc 2 (by decide), hc 3 (by decide), hc 4 (by decide), hp, hz⟩
end
end Go.Proofs.YtjloedcikcamkaaDoor
