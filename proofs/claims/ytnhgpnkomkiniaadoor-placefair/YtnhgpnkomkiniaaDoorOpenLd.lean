/-
  api.Load among the arguments: lists of them.
-/
import Derived.Test.YtnhgpnkomkiniaaDoorOpenL
import Derived.Test.YtnhgpnkomkiniaaDoorProg
import Derived.OpenShut
import Derived.SizedLaws
namespace Go.Proofs.YtnhgpnkomkiniaaDoor
open Go.ChangeShapes Go.WideShapes Go.RowKit Go.Deep

structure LoadV where
  live : Bool
  drain : Bool
  opn : Int
  left : Int
deriving DecidableEq
instance : Inhabited LoadV := ⟨⟨false, false, 0, 0⟩⟩
abbrev LoadV.cells (z : LoadV) : List Value := [.bool z.live, .bool z.drain, .int .i64 z.opn, .int .i64 z.left]
def LoadOk (z : LoadV) (cs : List Value) : Prop := cs = z.cells ∧ (-9223372036854775808 ≤ z.opn ∧ z.opn ≤ 9223372036854775807) ∧ -9223372036854775808 ≤ z.left ∧ z.left ≤ 9223372036854775807
section
variable {H : Type} {enc : TypeId × Value → H} {w : World} {base : Nat} {spare : Nat → Bool} {held : Bool}
theorem wf_i64 {m : Int} (h : (Lit.int .i64 m).wf = true) : -9223372036854775808 ≤ m ∧ m ≤ 9223372036854775807 := by
  have h1 : IntKind.min .i64 = -9223372036854775808 := by decide
  have h2 : IntKind.max .i64 = 9223372036854775807 := by decide
  simp only [Lit.wf, h1, h2, Bool.and_eq_true, decide_eq_true_eq] at h
  exact h
set_option maxRecDepth 100000 in
theorem load_of_trod {fuel : Nat} {cs : List Value} {x : DataW H × List MemPlace} (hl : cs.length = 4) (h : DataW.trod enc Tryd.prog w base spare held fuel 23 cs = some x) : ∃ z, LoadOk z cs := by
  match cs, hl with
  | [c0, c1, c2, c3], _ =>
    have hCB : Tryd.prog.cellsOf 4 = 1 := by kernel_rfl
    have hCI : Tryd.prog.cellsOf 3 = 1 := by kernel_rfl
    obtain ⟨xs, n', _, _, _, hxl, hfl⟩ := DataW.trod_struct Tryd.underlying23 h
    have hxl4 : xs.length = 4 := hxl
    have t0 : DataW.trod enc Tryd.prog w base spare held n' 4 (([c0, c1, c2, c3].drop 0).take (Tryd.prog.cellsOf 4)) = xs[0]? := hfl 0 _ rfl
    have t1 : DataW.trod enc Tryd.prog w base spare held n' 4 (([c0, c1, c2, c3].drop 1).take (Tryd.prog.cellsOf 4)) = xs[1]? := hfl 1 _ rfl
    have t2 : DataW.trod enc Tryd.prog w base spare held n' 3 (([c0, c1, c2, c3].drop 2).take (Tryd.prog.cellsOf 3)) = xs[2]? := hfl 2 _ rfl
    have t3 : DataW.trod enc Tryd.prog w base spare held n' 3 (([c0, c1, c2, c3].drop 3).take (Tryd.prog.cellsOf 3)) = xs[3]? := hfl 3 _ rfl
    simp only [hCB, hCI, List.drop_zero, List.drop_succ_cons, List.take_succ_cons, List.take_zero] at t0 t1 t2 t3
    match xs, hxl4 with
    | [x0, x1, x2, x3], _ =>
      simp only [List.getElem?_cons_zero, List.getElem?_cons_succ] at t0 t1 t2 t3
      obtain ⟨a, e0, _⟩ := DataW.trod_bool Tryd.underlying4 t0
      obtain ⟨b, e1, _⟩ := DataW.trod_bool Tryd.underlying4 t1
      obtain ⟨m, e2, h2⟩ := open_int1 Tryd.underlying3 t2
      obtain ⟨n, e3, h3⟩ := open_int1 Tryd.underlying3 t3
      obtain rfl : c0 = .bool a := by simpa using e0
      obtain rfl : c1 = .bool b := by simpa using e1
      subst e2 e3
      exact ⟨⟨a, b, m, n⟩, rfl, wf_i64 h2, wf_i64 h3⟩
theorem len_bound21 {P : Program} {t e : TypeId} {fuel l c by_ : Nat} {q : Option Addr} {x : DataW H × List MemPlace} (ht : P.underlying t = some (.slice e)) (hby : P.bytesOf e = by_) (h : DataW.trod enc P w base spare held fuel t [.slice q l c] = some x) (hw : ∀ n ∈ x.1.weights P t, n ≤ 140737488351232) : l * by_ ≤ 140737488351232 := by
  rcases open_slice ht h with ⟨hv, _⟩ | ⟨a, len, cap, m, n, D, Pl, hv, hb, hl, hm, hmm, rfl, hx⟩
  · simp at hv
    rw [hv.2.1, Nat.zero_mul]
    exact Nat.zero_le _
  · simp at hv
    obtain ⟨_, rfl, _⟩ := hv
    have := hw _ (by simp only [DataW.weights, ht]; exact List.mem_cons_self ..)
    rw [hby, List.length_map, List.length_range, Nat.add_mul] at this
    omega
theorem nil_ok21 {P : Program} {t e : TypeId} {fuel : Nat} {v : Value} {x : DataW H × List MemPlace} (ht : P.underlying t = some (.slice e)) (h : DataW.trod enc P w base spare held fuel t [v] = some x) : ∀ l c, v = .slice none l c → c = 0 := by
  rintro l c rfl
  rcases open_slice ht h with ⟨hv, _⟩ | ⟨a, len, cap, m, n, D, Pl, hv, hb, hl, hm, hmm, rfl, hx⟩
  · simp at hv
    exact hv.2
  · simp at hv
def LoadsArg (w : World) (v : Value) (zs : List LoadV) : Prop := ListAt LoadOk 4 w v zs ∧ zs.length * 24 ≤ 140737488351232 ∧ ∀ l c, v = .slice none l c → c = 0
def LoadsArgU (w : World) (v : Value) (zs : List LoadV) : Prop := LoadsArg w v zs ∧ zs.length ≤ 1048576
set_option maxRecDepth 100000 in
theorem loads_open {fuel : Nat} {v : Value} {x : DataW H × List MemPlace} (h : DataW.trod enc Tryd.prog w base spare held fuel 29 [v] = some x) (hw : ∀ n ∈ x.1.weights Tryd.prog 29, n ≤ 140737488351232) : ∃ zs, LoadsArg w v zs := by
  obtain ⟨zs, _, h2⟩ := open_list (k := 4) (by decide) Tryd.underlying29 (by kernel_rfl) LoadOk (fun fuel cs y hl hy _ _ => load_of_trod hl hy) h hw
  refine ⟨zs, h2, ?_, nil_ok21 Tryd.underlying29 h⟩
  obtain ⟨a, cap, rfl, _⟩ := h2
  exact len_bound21 Tryd.underlying29 (by kernel_rfl) h hw
set_option maxRecDepth 100000 in
theorem loads_openU {fuel : Nat} {v : Value} {x : DataW H × List MemPlace} (h : DataW.trod enc Tryd.prog w base spare held fuel 29 [v] = some x) (hw : ∀ n ∈ x.1.weights Tryd.prog 29, n ≤ 140737488351232) (hbk : Rows.uptoBulk x.1 ≤ 1048576) : ∃ zs, LoadsArgU w v zs := by
  obtain ⟨zs, h1, h2⟩ := open_list (k := 4) (by decide) Tryd.underlying29 (by kernel_rfl) LoadOk (fun fuel cs y hl hy _ _ => load_of_trod hl hy) h hw
  refine ⟨zs, ⟨h2, ?_, nil_ok21 Tryd.underlying29 h⟩, by omega⟩
  obtain ⟨a, cap, rfl, _⟩ := h2
  exact len_bound21 Tryd.underlying29 (by kernel_rfl) h hw
end
end Go.Proofs.YtnhgpnkomkiniaaDoor
