/-
  layer 15's arguments: a script of culvertlaw15.Op
-/
import Derived.Test.YtcdgmbaimbmdmaaDoorOpenL
import Derived.OpenShut
import Derived.SizedLaws
namespace Go.Proofs.YtcdgmbaimbmdmaaDoor
open Go.ChangeShapes Go.WideShapes Go.RowKit Go.Deep

structure OpV15 where
  kind : Int
  id : Nat
  v : Int
instance : Inhabited OpV15 := ⟨⟨0, 0, 0⟩⟩
def OpV15.cells (z : OpV15) : List Value := [.int .i64 z.kind, .int .u32 (z.id : Nat), .int .i64 z.v]
def Op15Ok (z : OpV15) (cs : List Value) : Prop := cs = z.cells ∧ z.id ≤ 4294967295

section
variable {H : Type} {enc : TypeId × Value → H} {w : World} {base : Nat} {spare : Nat → Bool} {held : Bool}
theorem list3 {α : Type} {cs : List α} (h : cs.length = 3) : ∃ c0 c1 c2, cs = [c0, c1, c2] := by
  match cs, h with
  | [c0, c1, c2], _ => exact ⟨c0, c1, c2, rfl⟩
set_option maxRecDepth 100000 in
theorem op15_of_trod {fuel : Nat} {cs : List Value} {x : DataW H × List MemPlace} (hl : cs.length = 3) (h : DataW.trod enc Tryd.prog w base spare held fuel 38 cs = some x) : ∃ z, Op15Ok z cs := by
  obtain ⟨c0, c1, c2, rfl⟩ := list3 hl
  have hCI : Tryd.prog.cellsOf 3 = 1 := by kernel_rfl
  have hCU : Tryd.prog.cellsOf 36 = 1 := by kernel_rfl
  obtain ⟨xs, n', _, hDx, _, hxl, hfl⟩ := DataW.trod_struct Tryd.underlying38 h
  have hxl3 : xs.length = 3 := hxl
  have t0 : DataW.trod enc Tryd.prog w base spare held n' 3 (([c0, c1, c2].drop 0).take (Tryd.prog.cellsOf 3)) = xs[0]? := hfl 0 _ rfl
  have t1 : DataW.trod enc Tryd.prog w base spare held n' 36 (([c0, c1, c2].drop 1).take (Tryd.prog.cellsOf 36)) = xs[1]? := hfl 1 _ rfl
  have t2 : DataW.trod enc Tryd.prog w base spare held n' 3 (([c0, c1, c2].drop 2).take (Tryd.prog.cellsOf 3)) = xs[2]? := hfl 2 _ rfl
  simp only [hCI, hCU, List.drop_zero, List.drop_succ_cons, List.take_succ_cons, List.take_zero] at t0 t1 t2
  match xs, hxl3 with
  | [x0, x1, x2], _ =>
    simp only [List.getElem?_cons_zero, List.getElem?_cons_succ] at t0 t1 t2
    obtain ⟨k, e0, _⟩ := open_int1 Tryd.underlying3 t0
    obtain ⟨m, e1, w1⟩ := open_int1 Tryd.underlying36 t1
    obtain ⟨v, e2, _⟩ := open_int1 Tryd.underlying3 t2
    subst e0 e1 e2
    have hb := bounds_u32 w1
    obtain ⟨m', rfl⟩ : ∃ m' : Nat, m = m' := ⟨m.toNat, by omega⟩
    exact ⟨⟨k, m', v⟩, rfl, by have := hb.2; show m' ≤ _; omega⟩
theorem len_bound {P : Program} {t e : TypeId} {fuel l c by_ : Nat} {q : Option Addr} {x : DataW H × List MemPlace} (ht : P.underlying t = some (.slice e)) (hby : P.bytesOf e = by_) (h : DataW.trod enc P w base spare held fuel t [.slice q l c] = some x) (hw : ∀ n ∈ x.1.weights P t, n ≤ 140737488351232) : l * by_ ≤ 140737488351232 := by
  rcases open_slice ht h with ⟨hv, _⟩ | ⟨a, len, cap, m, n, D, Pl, hv, hb, hl, hm, hmm, rfl, hx⟩
  · simp at hv
    rw [hv.2.1, Nat.zero_mul]
    exact Nat.zero_le _
  · simp at hv
    obtain ⟨_, rfl, _⟩ := hv
    have := hw _ (by simp only [DataW.weights, ht]; exact List.mem_cons_self ..)
    rw [hby, List.length_map, List.length_range, Nat.add_mul] at this
    omega
def Ops15Arg (w : World) (v : Value) (zs : List OpV15) : Prop := ListAt Op15Ok 3 w v zs ∧ zs.length * 24 ≤ 140737488351232
set_option maxRecDepth 100000 in
theorem ops15_open {fuel : Nat} {v : Value} {x : DataW H × List MemPlace} (h : DataW.trod enc Tryd.prog w base spare held fuel 22 [v] = some x) (hw : ∀ n ∈ x.1.weights Tryd.prog 22, n ≤ 140737488351232) : ∃ zs, Ops15Arg w v zs := by
  obtain ⟨zs, h1, h2⟩ := open_list (k := 3) (by decide) Tryd.underlying22 (by kernel_rfl) Op15Ok (fun fuel cs y hl hy hw' hb => op15_of_trod hl hy) h hw
  refine ⟨zs, h2, ?_⟩
  obtain ⟨a, cap, rfl, _⟩ := h2
  exact len_bound Tryd.underlying22 (by kernel_rfl) h hw
end
end Go.Proofs.YtcdgmbaimbmdmaaDoor
