/-
  culvertlaw06.Op among the arguments; a script of them.
-/
import Derived.Test.YtmlkhgcebmhodaaDoorOpenL
import Derived.Test.YtmlkhgcebmhodaaDoorOpenB
import Derived.Test.YtmlkhgcebmhodaaDoorOpenF
namespace Go.Proofs.YtmlkhgcebmhodaaDoor
open Go.ChangeShapes Go.WideShapes Go.RowKit Go.Deep

structure OpV6 where
  kind : Int
  h : HV
  sl : Value
  ns : List Int
  n : Int
instance : Inhabited OpV6 := ⟨⟨0, ⟨0, 0, 0, 0, 0⟩, .slice none 0 0, [], 0⟩⟩
def OpV6.cells (z : OpV6) : List Value := [.int .i64 z.kind, .int .u8 z.h.v, .int .u8 z.h.t, .int .u16 z.h.f, .int .u32 z.h.s, .int .u32 z.h.l, z.sl, .int .i64 z.n]
/-- what is known of an op -/
def Op6Ok (w : World) (bulk : Nat) (z : OpV6) (cs : List Value) : Prop := cs = z.cells ∧ z.h.ok ∧ Rd w z.sl z.ns ∧ AreBytes z.ns ∧ z.ns.length ≤ 140737488351232 ∧ z.ns.length ≤ bulk

section
variable {H : Type} {enc : TypeId × Value → H} {w : World} {base : Nat} {spare : Nat → Bool} {held : Bool}
theorem list6 {α : Type} {cs : List α} (h : cs.length = 6) : ∃ c0 c1 c2 c3 c4 c5, cs = [c0, c1, c2, c3, c4, c5] := by
  match cs, h with
  | [c0, c1, c2, c3, c4, c5], _ => exact ⟨c0, c1, c2, c3, c4, c5, rfl⟩
theorem list8 {α : Type} {cs : List α} (h : cs.length = 8) : ∃ c0 c1 c2 c3 c4 c5 c6 c7, cs = [c0, c1, c2, c3, c4, c5, c6, c7] := by
  match cs, h with
  | [c0, c1, c2, c3, c4, c5, c6, c7], _ => exact ⟨c0, c1, c2, c3, c4, c5, c6, c7, rfl⟩
/-- a frame's cells -/
theorem frame_of_trod {fuel : Nat} {c0 c1 c2 c3 c4 c5 : Value} {x : DataW H × List MemPlace} (h : DataW.trod enc Tryd.prog w base spare held fuel 37 [c0, c1, c2, c3, c4, c5] = some x) (hw : ∀ n ∈ x.1.weights Tryd.prog 37, n ≤ 140737488351232) :
    ∃ (z : HV) (ns : List Int), z.ok ∧ c0 = .int .u8 z.v ∧ c1 = .int .u8 z.t ∧ c2 = .int .u16 z.f ∧ c3 = .int .u32 z.s ∧ c4 = .int .u32 z.l ∧ Rd w c5 ns ∧ AreBytes ns ∧ ns.length ≤ 140737488351232 ∧ ns.length ≤ Rows.uptoBulk x.1 := by
  have hCH : Tryd.prog.cellsOf 35 = 5 := by kernel_rfl
  have hCB : Tryd.prog.cellsOf 27 = 1 := by kernel_rfl
  obtain ⟨y0, y1, n, hx, _, t0, t1⟩ := trod_struct2 Tryd.underlying37 h
  simp only [hCH, hCB, List.drop_zero, List.drop_succ_cons, List.take_succ_cons, List.take_zero] at t0 t1
  obtain ⟨z, hz, e0, e1, e2, e3, e4⟩ := hdr_of_trod t0
  have hx1 := congrArg Prod.fst hx
  obtain ⟨ns, hr, hb, hl⟩ := bytes_of_trod t1 (fun k hk => hw k (by
    rw [hx1]
    simp only [DataW.weights, Tryd.underlying37]
    exact DataW.weights_mem_each (j := 1) (t := 27) (d := y1.1) rfl rfl k hk))
  refine ⟨z, ns, hz, e0, e1, e2, e3, e4, hr, hb, hl, ?_⟩
  have h1 : ns.length ≤ Rows.uptoBulk y1.1 := by
    obtain ⟨p, c, hv⟩ := hr.shape
    rcases open_ints Tryd.underlying27 Tryd.underlying5 (by kernel_rfl) t1 with ⟨hcs, _⟩ | ⟨a, len, cap, zs, hcs, _, hl, hm, hz, hx, _⟩
    · have hv' : c5 = .slice none 0 0 := by simpa using hcs
      rw [hv] at hv'
      injection hv' with _ e2 _
      omega
    · have hv' : c5 = .slice (some a) len cap := by simpa using hcs
      rw [hv] at hv'
      injection hv' with _ e2 _
      have hlz : len ≤ zs.length := by rw [hz]; split <;> omega
      have := bulk_parts (lits (H := H) .u8 (zs.take len))
      rw [hx]
      simp only [Rows.uptoBulk]
      simp only [lits, List.length_map, List.length_take] at this
      simp only [lits]
      omega
  rw [hx1]
  simp only [Rows.uptoBulk, Rows.uptoBulkAll]
  omega
set_option maxRecDepth 100000 in
theorem op6_of_trod {fuel : Nat} {cs : List Value} {x : DataW H × List MemPlace} (hl : cs.length = 8) (h : DataW.trod enc Tryd.prog w base spare held fuel 51 cs = some x) (hw : ∀ n ∈ x.1.weights Tryd.prog 51, n ≤ 140737488351232) : ∃ z, Op6Ok w (Rows.uptoBulk x.1) z cs := by
  obtain ⟨c0, c1, c2, c3, c4, c5, c6, c7, rfl⟩ := list8 hl
  have hCI : Tryd.prog.cellsOf 3 = 1 := by kernel_rfl
  have hCF : Tryd.prog.cellsOf 37 = 6 := by kernel_rfl
  obtain ⟨xs, n', _, hDx, _, hxl, hfl⟩ := DataW.trod_struct Tryd.underlying51 h
  have hxl3 : xs.length = 3 := hxl
  have t0 : DataW.trod enc Tryd.prog w base spare held n' 3 (([c0, c1, c2, c3, c4, c5, c6, c7].drop 0).take (Tryd.prog.cellsOf 3)) = xs[0]? := hfl 0 _ rfl
  have t1 : DataW.trod enc Tryd.prog w base spare held n' 37 (([c0, c1, c2, c3, c4, c5, c6, c7].drop 1).take (Tryd.prog.cellsOf 37)) = xs[1]? := hfl 1 _ rfl
  have t2 : DataW.trod enc Tryd.prog w base spare held n' 3 (([c0, c1, c2, c3, c4, c5, c6, c7].drop 7).take (Tryd.prog.cellsOf 3)) = xs[2]? := hfl 2 _ rfl
  simp only [hCI, hCF, List.drop_zero, List.drop_succ_cons, List.take_succ_cons, List.take_zero] at t0 t1 t2
  match xs, hxl3 with
  | [x0, x1, x2], _ =>
    simp only [List.getElem?_cons_zero, List.getElem?_cons_succ] at t0 t1 t2
    obtain ⟨k, e0, _⟩ := open_int1 Tryd.underlying3 t0
    obtain ⟨m, e7, _⟩ := open_int1 Tryd.underlying3 t2
    have hx1 : x.1 = .agg [x0.1, x1.1, x2.1] := congrArg Prod.fst hDx
    obtain ⟨z, ns, hz, e1, e2, e3, e4, e5, hr, hb, hl1, hl2⟩ := frame_of_trod t1 (fun k hk => hw k (by
      rw [hx1]
      simp only [DataW.weights, Tryd.underlying51]
      exact DataW.weights_mem_each (j := 1) (t := 37) (d := x1.1) rfl rfl k hk))
    subst e0 e1 e2 e3 e4 e5 e7
    refine ⟨⟨k, z, c6, ns, m⟩, rfl, hz, hr, hb, hl1, ?_⟩
    rw [hx1]
    simp only [Rows.uptoBulk, Rows.uptoBulkAll]
    omega
def Op6Arg (w : World) (v : Value) (z : OpV6) : Prop := v = .agg z.cells.toArray ∧ ∃ b, Op6Ok w b z z.cells
set_option maxRecDepth 100000 in
theorem op6_open {r : Reach} {b0 : Nat} {v : Value} {d : DataW H} {p : List MemPlace} (hv : Value.okWide Tryd.prog w r b0 51 v)
    (h : DataW.Trod enc Tryd.prog w base spare held 51 v d p) (hw : ∀ n ∈ d.weights Tryd.prog 51, n ≤ 140737488351232) : ∃ z, Op6Arg w v z := by
  have hC : Tryd.prog.cellsOf 51 = 8 := by kernel_rfl
  obtain ⟨cs, rfl, hsz⟩ := okWide_struct Tryd.underlying51 hv
  obtain ⟨l⟩ := cs
  obtain ⟨fuel, hf⟩ := h
  have hl : l.length = 8 := by rw [hC] at hsz; simpa using hsz
  have hf' : DataW.trod enc Tryd.prog w base spare held fuel 51 l = some (d, p) := hf
  obtain ⟨z, hz⟩ := op6_of_trod hl hf' hw
  have e := hz.1
  subst e
  exact ⟨z, rfl, _, hz⟩
def Ops6Arg (w : World) (v : Value) (zs : List OpV6) : Prop := zs.length ≤ 1048576 ∧ ListAt (Op6Ok w 1048576) 8 w v zs
theorem ops6_open {fuel : Nat} {v : Value} {x : DataW H × List MemPlace} (h : DataW.trod enc Tryd.prog w base spare held fuel 44 [v] = some x) (hw : ∀ n ∈ x.1.weights Tryd.prog 44, n ≤ 140737488351232) (hk : Rows.uptoBulk x.1 ≤ 1048576) : ∃ zs, Ops6Arg w v zs := by
  obtain ⟨zs, h1, h2⟩ := open_list (k := 8) (by decide) Tryd.underlying44 (by kernel_rfl) (Op6Ok w 1048576) (fun fuel cs y hl hy hw' hb => by
    obtain ⟨z, e, a1, a2, a3, a4, a5⟩ := op6_of_trod hl hy hw'
    exact ⟨z, e, a1, a2, a3, a4, Nat.le_trans a5 (Nat.le_trans hb hk)⟩) h hw
  exact ⟨zs, Nat.le_trans h1 hk, h2⟩
end
end Go.Proofs.YtmlkhgcebmhodaaDoor
