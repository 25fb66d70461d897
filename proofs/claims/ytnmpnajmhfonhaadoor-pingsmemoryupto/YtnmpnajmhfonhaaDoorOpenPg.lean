/-
  layer 17's arguments: a script of culvertlaw17.Op, a list of numbers of 32 bits
-/
import Derived.Test.YtnmpnajmhfonhaaDoorOpenL
import Derived.OpenShut
import Derived.SizedLaws
namespace Go.Proofs.YtnmpnajmhfonhaaDoor
open Go.ChangeShapes Go.WideShapes Go.RowKit Go.Deep

structure OpV17 where
  kind : Int
  id : Nat
instance : Inhabited OpV17 := ⟨⟨0, 0⟩⟩
def OpV17.cells (z : OpV17) : List Value := [.int .i64 z.kind, .int .u32 (z.id : Nat)]
def Op17Ok (z : OpV17) (cs : List Value) : Prop := cs = z.cells ∧ z.id ≤ 4294967295

section
variable {H : Type} {enc : TypeId × Value → H} {w : World} {base : Nat} {spare : Nat → Bool} {held : Bool}
theorem list2 {α : Type} {cs : List α} (h : cs.length = 2) : ∃ c0 c1, cs = [c0, c1] := by
  match cs, h with
  | [c0, c1], _ => exact ⟨c0, c1, rfl⟩
set_option maxRecDepth 100000 in
theorem op17_of_trod {fuel : Nat} {cs : List Value} {x : DataW H × List MemPlace} (hl : cs.length = 2) (h : DataW.trod enc Tryd.prog w base spare held fuel 39 cs = some x) : ∃ z, Op17Ok z cs := by
  obtain ⟨c0, c1, rfl⟩ := list2 hl
  have hCI : Tryd.prog.cellsOf 3 = 1 := by kernel_rfl
  have hCU : Tryd.prog.cellsOf 37 = 1 := by kernel_rfl
  obtain ⟨xs, n', _, hDx, _, hxl, hfl⟩ := DataW.trod_struct Tryd.underlying39 h
  have hxl3 : xs.length = 2 := hxl
  have t0 : DataW.trod enc Tryd.prog w base spare held n' 3 (([c0, c1].drop 0).take (Tryd.prog.cellsOf 3)) = xs[0]? := hfl 0 _ rfl
  have t1 : DataW.trod enc Tryd.prog w base spare held n' 37 (([c0, c1].drop 1).take (Tryd.prog.cellsOf 37)) = xs[1]? := hfl 1 _ rfl
  simp only [hCI, hCU, List.drop_zero, List.drop_succ_cons, List.take_succ_cons, List.take_zero] at t0 t1
  match xs, hxl3 with
  | [x0, x1], _ =>
    simp only [List.getElem?_cons_zero, List.getElem?_cons_succ] at t0 t1
    obtain ⟨k, e0, _⟩ := open_int1 Tryd.underlying3 t0
    obtain ⟨m, e2, w1⟩ := open_int1 Tryd.underlying37 t1
    subst e0 e2
    have hb := bounds_u32 w1
    obtain ⟨m', rfl⟩ : ∃ m' : Nat, m = m' := ⟨m.toNat, by omega⟩
    exact ⟨⟨k, m'⟩, rfl, by have := hb.2; show m' ≤ _; omega⟩
theorem len_bound {P : Program} {t e : TypeId} {fuel l c by_ : Nat} {q : Option Addr} {x : DataW H × List MemPlace} (ht : P.underlying t = some (.slice e)) (hby : P.bytesOf e = by_) (h : DataW.trod enc P w base spare held fuel t [.slice q l c] = some x) (hw : ∀ n ∈ x.1.weights P t, n ≤ 140737488351232) : l * by_ ≤ 140737488351232 := by
  rcases open_slice ht h with ⟨hv, _⟩ | ⟨a, len, cap, m, n, D, Pl, hv, hb, hl, hm, hmm, rfl, hx⟩
  · simp at hv
    rw [hv.2.1, Nat.zero_mul]
    exact Nat.zero_le _
  · simp at hv
    obtain ⟨_, rfl, _⟩ := hv
    have := hw _ (by simp only [DataW.weights, ht]; exact List.mem_cons_self ..)
    rw [hby, List.length_map, List.length_range, Nat.add_mul] at this
    omega
def Ops17Arg (w : World) (v : Value) (zs : List OpV17) : Prop := ListAt Op17Ok 2 w v zs ∧ zs.length * 16 ≤ 140737488351232
def Ops17ArgU (w : World) (v : Value) (zs : List OpV17) : Prop := ListAt Op17Ok 2 w v zs ∧ zs.length ≤ 1048576
set_option maxRecDepth 100000 in
theorem ops17_open {fuel : Nat} {v : Value} {x : DataW H × List MemPlace} (h : DataW.trod enc Tryd.prog w base spare held fuel 32 [v] = some x) (hw : ∀ n ∈ x.1.weights Tryd.prog 32, n ≤ 140737488351232) : ∃ zs, Ops17Arg w v zs := by
  obtain ⟨zs, h1, h2⟩ := open_list (k := 2) (by decide) Tryd.underlying32 (by kernel_rfl) Op17Ok (fun fuel cs y hl hy hw' hb => op17_of_trod hl hy) h hw
  refine ⟨zs, h2, ?_⟩
  obtain ⟨a, cap, rfl, _⟩ := h2
  exact len_bound Tryd.underlying32 (by kernel_rfl) h hw
set_option maxRecDepth 100000 in
theorem ops17_openU {fuel : Nat} {v : Value} {x : DataW H × List MemPlace} (h : DataW.trod enc Tryd.prog w base spare held fuel 32 [v] = some x) (hw : ∀ n ∈ x.1.weights Tryd.prog 32, n ≤ 140737488351232) (hk : Rows.uptoBulk x.1 ≤ 1048576) : ∃ zs, Ops17ArgU w v zs := by
  obtain ⟨zs, h1, h2⟩ := open_list (k := 2) (by decide) Tryd.underlying32 (by kernel_rfl) Op17Ok (fun fuel cs y hl hy hw' hb => op17_of_trod hl hy) h hw
  exact ⟨zs, h2, Nat.le_trans h1 hk⟩
def U32Ok (z : Nat) (cs : List Value) : Prop := cs = [.int .u32 z] ∧ z ≤ 4294967295
def U32sArg (w : World) (v : Value) (zs : List Nat) : Prop := ListAt U32Ok 1 w v zs ∧ zs.length * 4 ≤ 140737488351232
set_option maxRecDepth 100000 in
theorem u32s_open {fuel : Nat} {v : Value} {x : DataW H × List MemPlace} (h : DataW.trod enc Tryd.prog w base spare held fuel 29 [v] = some x) (hw : ∀ n ∈ x.1.weights Tryd.prog 29, n ≤ 140737488351232) : ∃ zs, U32sArg w v zs := by
  obtain ⟨zs, _, h2⟩ := open_list (k := 1) (by decide) Tryd.underlying29 (by kernel_rfl) U32Ok (fun fuel cs y hl hy _ _ => by
    match cs, hl with
    | [c0], _ =>
      obtain ⟨n, e, w1⟩ := open_int1 Tryd.underlying37 hy
      have b := bounds_u32 w1
      refine ⟨n.toNat, ?_, by omega⟩
      rw [e, Int.toNat_of_nonneg b.1]) h hw
  refine ⟨zs, h2, ?_⟩
  obtain ⟨a, cap, rfl, _⟩ := h2
  exact len_bound Tryd.underlying29 (by kernel_rfl) h hw
/-- an op of a script -/
theorem op17_cells {zs : List OpV17} {a : Option Addr} {c i : Nat} {z : OpV17} (h : ListAt Op17Ok 2 w (.slice a zs.length c) zs) (hi : zs[i]? = some z) :
    ∃ b o, a = some ⟨b, o, none⟩ ∧ w.cell? ⟨b, o + i * 2, none⟩ = some (.int .i64 z.kind) ∧ w.cell? ⟨b, o + i * 2 + 1, none⟩ = some (.int .u32 (z.id : Nat)) ∧ z.id ≤ 4294967295 := by
  obtain ⟨a', c', e, _, _, h⟩ := h
  injection e with e1 _ e2
  subst e1
  obtain ⟨b, o, cs, rfl, ⟨rfl, hid⟩, _, hc⟩ := h i z hi
  exact ⟨b, o, rfl, hc 0 (by decide), hc 1 (by decide), hid⟩
theorem u32_cells {zs : List Nat} {a : Option Addr} {c i : Nat} {z : Nat} (h : ListAt U32Ok 1 w (.slice a zs.length c) zs) (hi : zs[i]? = some z) :
    ∃ b o, a = some ⟨b, o, none⟩ ∧ w.cell? ⟨b, o + i, none⟩ = some (.int .u32 (z : Nat)) ∧ z ≤ 4294967295 := by
  obtain ⟨a', c', e, _, _, h⟩ := h
  injection e with e1 _ e2
  subst e1
  obtain ⟨b, o, cs, rfl, ⟨rfl, hid⟩, _, hc⟩ := h i z hi
  have h0 := hc 0 (by decide)
  rw [Nat.mul_one, Nat.add_zero] at h0
  exact ⟨b, o, rfl, h0, hid⟩
end
end Go.Proofs.YtnmpnajmhfonhaaDoor
