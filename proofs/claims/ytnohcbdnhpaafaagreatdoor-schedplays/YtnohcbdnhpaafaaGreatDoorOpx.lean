import Derived.Test.YtnohcbdnhpaafaaGreatDoorLnP
import Derived.Test.YtnohcbdnhpaafaaGreatDoorLnA
import Derived.Test.YtnohcbdnhpaafaaGreatDoorOpenL
import Derived.Lib.SmallJoins
import Derived.OpenShut
import Derived.SizedLaws
import Derived.Deep.Fields
import Derived.Deep.Slices
import Derived.Test.YtnohcbdnhpaafaaGreatDoorScx
/-
  A ticket among the arguments.
-/
namespace Go.Proofs.YtnohcbdnhpaafaaGreatDoor
open Go.ChangeShapes Go.WideShapes Go.RowKit

theorem trod_struct3' {H : Type} {enc : TypeId × Value → H} {w : World} {base : Nat} {spare : Nat → Bool} {held : Bool} {P : Program} {t : TypeId} {f0 f1 f2 : Field} {fuel : Nat} {cs : List Value} {x : DataW H × List MemPlace} (ht : P.underlying t = some (.struct #[f0, f1, f2])) (h : DataW.trod enc P w base spare held fuel t cs = some x) :
    ∃ y0 y1 y2 n, x.1 = .agg [y0.1, y1.1, y2.1] ∧ DataW.trod enc P w base spare held n f0.type ((cs.drop f0.offset).take (P.cellsOf f0.type)) = some y0 ∧ DataW.trod enc P w base spare held n f1.type ((cs.drop f1.offset).take (P.cellsOf f1.type)) = some y1 ∧ DataW.trod enc P w base spare held n f2.type ((cs.drop f2.offset).take (P.cellsOf f2.type)) = some y2 := by
  obtain ⟨xs, n, _, rfl, hl, hlen, hf⟩ := DataW.trod_struct ht h
  match xs, hlen with
  | [y0, y1, y2], _ => exact ⟨y0, y1, y2, n, rfl, by simpa using hf 0 f0 rfl, by simpa using hf 1 f1 rfl, by simpa using hf 2 f2 rfl⟩
def TkArg (_w : World) (v : Value) (z : Tk) : Prop := v = tkv z.k z.s z.v ∧ z.Wide
section
variable {H : Type} {enc : TypeId × Value → H} {w : World} {base : Nat} {spare : Nat → Bool} {held : Bool}
theorem tk_of_trod {fuel : Nat} {c0 c1 c2 : Value} {x : DataW H × List MemPlace} (h : DataW.trod enc Tryz.prog w base spare held fuel 35 [c0, c1, c2] = some x) :
    ∃ z : Tk, z.Wide ∧ c0 = .int .i64 z.k ∧ c1 = .int .u32 z.s ∧ c2 = .int .u32 z.v := by
  have cu32 : Tryz.prog.cellsOf 33 = 1 := by kernel_rfl
  have ck : Tryz.prog.cellsOf 32 = 1 := by kernel_rfl
  obtain ⟨y0, y1, y2, n, _, t0, t1, t2⟩ := trod_struct3' Tryz.underlying35 h
  simp only [cu32, ck, List.drop_zero, List.drop_succ_cons, List.take_succ_cons, List.take_zero] at t0 t1 t2
  obtain ⟨z0, v0, w0⟩ := open_int1 Tryz.underlying32 t0
  obtain ⟨z1, v1, w1⟩ := open_int1 Tryz.underlying33 t1
  obtain ⟨z2, v2, w2⟩ := open_int1 Tryz.underlying33 t2
  have b0 := bounds_i64 w0
  have b1 := bounds_u32 w1
  have b2 := bounds_u32 w2
  refine ⟨⟨z0, z1.toNat, z2.toNat⟩, ⟨b0.1, b0.2, ?_, ?_⟩, v0, ?_, ?_⟩
  · simp only; omega
  · simp only; omega
  · rw [v1]; simp only; rw [Int.toNat_of_nonneg b1.1]
  · rw [v2]; simp only; rw [Int.toNat_of_nonneg b2.1]
theorem wide3 {P : Program} {r : Reach} {b0 : Nat} {t : TypeId} {f0 f1 f2 : Field} {v : Value} (hs : P.underlying t = some (.struct #[f0, f1, f2])) (hC : P.cellsOf t = 3) (hv : Value.okWide P w r b0 t v) : ∃ c0 c1 c2, v = .agg #[c0, c1, c2] := by
  obtain ⟨cs, rfl, hsz⟩ := okWide_struct hs hv
  obtain ⟨l⟩ := cs
  match l, hsz.trans hC with
  | [c0, c1, c2], _ => exact ⟨c0, c1, c2, rfl⟩
set_option maxRecDepth 100000 in
theorem tk_open {r : Reach} {b0 : Nat} {v : Value} {d : DataW H} {p : List MemPlace} (hv : Value.okWide Tryz.prog w r b0 35 v)
    (h : DataW.Trod enc Tryz.prog w base spare held 35 v d p) : ∃ z, TkArg w v z := by
  have hC : Tryz.prog.cellsOf 35 = 3 := by kernel_rfl
  have hh := wide3 (P := Tryz.prog) (w := w) (r := r) (b0 := b0) (t := 35) (v := v) Tryz.underlying35 hC
  have h5 := hh hv
  clear hh hC hv
  obtain ⟨c0, c1, c2, hv⟩ := h5
  subst hv
  obtain ⟨fuel, hf⟩ := h
  have hf' : DataW.trod enc Tryz.prog w base spare held fuel 35 [c0, c1, c2] = some (d, p) := hf
  obtain ⟨z, hz, e0, e1, e2⟩ := tk_of_trod hf'
  subst e0 e1 e2
  exact ⟨z, rfl, hz⟩
end
end Go.Proofs.YtnohcbdnhpaafaaGreatDoor

/-
  Law 11's calls (and tickets) among the arguments.
-/
namespace Go.Proofs.YtnohcbdnhpaafaaGreatDoor
open Go.ChangeShapes Go.WideShapes Go.RowKit Go.Deep

structure OpV11 where
  kind : Int
  t : Tk
instance : Inhabited OpV11 := ⟨⟨0, ⟨0, 0, 0⟩⟩⟩
def OpV11.cells (z : OpV11) : List Value := [.int .i64 z.kind, .int .i64 z.t.k, .int .u32 z.t.s, .int .u32 z.t.v]
def Op11Ok (z : OpV11) (cs : List Value) : Prop := cs = z.cells ∧ z.t.Wide
def Tk11Ok (z : Tk) (cs : List Value) : Prop := cs = [.int .i64 z.k, .int .u32 z.s, .int .u32 z.v] ∧ z.Wide
instance : Inhabited Tk := ⟨⟨0, 0, 0⟩⟩
section
variable {H : Type} {enc : TypeId × Value → H} {w : World} {base : Nat} {spare : Nat → Bool} {held : Bool}
theorem trod_struct2' {P : Program} {t : TypeId} {f0 f1 : Field} {fuel : Nat} {cs : List Value} {x : DataW H × List MemPlace} (ht : P.underlying t = some (.struct #[f0, f1])) (h : DataW.trod enc P w base spare held fuel t cs = some x) :
    ∃ y0 y1 n, DataW.trod enc P w base spare held n f0.type ((cs.drop f0.offset).take (P.cellsOf f0.type)) = some y0 ∧ DataW.trod enc P w base spare held n f1.type ((cs.drop f1.offset).take (P.cellsOf f1.type)) = some y1 := by
  obtain ⟨xs, n, _, rfl, hl, hlen, hf⟩ := DataW.trod_struct ht h
  match xs, hlen with
  | [y0, y1], _ => exact ⟨y0, y1, n, by simpa using hf 0 f0 rfl, by simpa using hf 1 f1 rfl⟩
def Ops11Arg (w : World) (v : Value) (zs : List OpV11) : Prop := ListAt Op11Ok 4 w v zs ∧ zs.length * 24 ≤ 140737488351232
def Tks11Arg (w : World) (v : Value) (zs : List Tk) : Prop := ListAt Tk11Ok 3 w v zs ∧ zs.length * 16 ≤ 140737488351232
theorem len_bound {P : Program} {t e : TypeId} {fuel l c by_ : Nat} {q : Option Addr} {x : DataW H × List MemPlace} (ht : P.underlying t = some (.slice e)) (hby : P.bytesOf e = by_) (h : DataW.trod enc P w base spare held fuel t [.slice q l c] = some x) (hw : ∀ n ∈ x.1.weights P t, n ≤ 140737488351232) : l * by_ ≤ 140737488351232 := by
  rcases open_slice ht h with ⟨hv, _⟩ | ⟨a, len, cap, m, n, D, Pl, hv, hb, hl, hm, hmm, rfl, hx⟩
  · simp at hv
    rw [hv.2.1, Nat.zero_mul]
    exact Nat.zero_le _
  · simp at hv
    obtain ⟨_, rfl, _⟩ := hv
    have := hw _ (by simp only [DataW.weights, ht]; exact List.mem_cons_self ..)
    rw [hby, List.length_map, List.length_range, Nat.add_mul] at this
    omega
set_option maxRecDepth 100000 in
theorem tks11_open {fuel : Nat} {v : Value} {x : DataW H × List MemPlace} (h : DataW.trod enc Tryz.prog w base spare held fuel 26 [v] = some x) (hw : ∀ n ∈ x.1.weights Tryz.prog 26, n ≤ 140737488351232) : ∃ zs, Tks11Arg w v zs := by
  obtain ⟨zs, _, h2⟩ := open_list (k := 3) (by decide) Tryz.underlying26 (by kernel_rfl) Tk11Ok (fun fuel cs y hl hy _ _ => by
    match cs, hl with
    | [c0, c1, c2], _ =>
      obtain ⟨z, hz, e1, e2, e3⟩ := tk_of_trod hy
      subst e1 e2 e3
      exact ⟨z, rfl, hz⟩) h hw
  refine ⟨zs, h2, ?_⟩
  obtain ⟨a, cap, rfl, _⟩ := h2
  exact len_bound Tryz.underlying26 (by kernel_rfl) h hw
end
end Go.Proofs.YtnohcbdnhpaafaaGreatDoor

/-
  law 13's steps among the arguments
-/
namespace Go.Proofs.YtnohcbdnhpaafaaGreatDoor
open Go.ChangeShapes Go.WideShapes Go.RowKit Go.Deep

structure OpV13 where
  kind : Int
  t : Tk
  id : Nat
  vo : Value
  vm : Value
  bo : List Bool
  bm : List Bool
instance : Inhabited OpV13 := ⟨⟨0, ⟨0, 0, 0⟩, 0, .slice none 0 0, .slice none 0 0, [], []⟩⟩
def OpV13.cells (z : OpV13) : List Value := [.int .i64 z.kind, .int .i64 z.t.k, .int .u32 z.t.s, .int .u32 z.t.v, .int .u32 z.id, z.vo, z.vm]
structure Op13Ok (w : World) (z : OpV13) (cs : List Value) : Prop where
  e : cs = z.cells
  k : -9223372036854775808 ≤ z.kind ∧ z.kind ≤ 9223372036854775807
  t : z.t.Wide
  i : z.id ≤ 4294967295
  o : RdBo w z.vo z.bo
  m : RdBo w z.vm z.bm
  lo : z.bo.length ≤ 9223372036854775807
  lm : z.bm.length ≤ 9223372036854775807
def Ops13Arg (w : World) (v : Value) (zs : List OpV13) : Prop := ListAt (Op13Ok w) 7 w v zs ∧ zs.length * 80 ≤ 140737488351232
def Bl13 (z : Bool) (cs : List Value) : Prop := cs = [.bool z]
section
variable {H : Type} {enc : TypeId × Value → H} {w : World} {base : Nat} {spare : Nat → Bool} {held : Bool}
set_option maxRecDepth 100000 in
theorem bools13 {fuel : Nat} {v : Value} {x : DataW H × List MemPlace} (h : DataW.trod enc Tryz.prog w base spare held fuel 36 [v] = some x) (hw : ∀ n ∈ x.1.weights Tryz.prog 36, n ≤ 140737488351232) : ∃ bs, RdBo w v bs ∧ bs.length ≤ 9223372036854775807 := by
  obtain ⟨zs, _, a, cap, rfl, h1, h2, h3⟩ := open_list (k := 1) (by decide) Tryz.underlying36 (by kernel_rfl) Bl13 (fun fuel cs y hl hy hw' hb => by
    match cs, hl with
    | [c0], _ =>
      obtain ⟨b, e0, _⟩ := DataW.trod_bool Tryz.underlying4 hy
      obtain rfl : c0 = .bool b := by simpa using e0
      exact ⟨b, rfl⟩) h hw
  refine ⟨zs, ⟨a, cap, by rw [List.length_map], by rw [List.length_map]; exact h1, fun j u hj => ?_⟩, by unfold maxLen at h2; omega⟩
  rw [List.getElem?_map] at hj
  cases hz : zs[j]? with
  | none => rw [hz] at hj; cases hj
  | some b =>
    rw [hz] at hj
    obtain rfl : Value.bool b = u := by simpa using hj
    obtain ⟨g, o, cs, rfl, hok, _, hc⟩ := h3 j b hz
    have hc0 := hc 0 (by decide)
    rw [show cs = [.bool b] from hok, Nat.mul_one, Nat.add_zero] at hc0
    exact ⟨_, rfl, fun x => x, by
      have hc1 : w.cell? ⟨g, o + j, none⟩ = some (.bool b) := hc0
      by_cases hj0 : j = 0
      · subst hj0; simpa [Addr.add] using hc1
      · simpa [Addr.add, hj0] using hc1⟩
set_option maxRecDepth 100000 in
theorem op13_of_trod {fuel : Nat} {cs : List Value} {x : DataW H × List MemPlace} (hl : cs.length = 7) (h : DataW.trod enc Tryz.prog w base spare held fuel 38 cs = some x) (hw : ∀ n ∈ x.1.weights Tryz.prog 38, n ≤ 140737488351232) : ∃ z, Op13Ok w z cs := by
  match cs, hl with
  | [c0, c1, c2, c3, c4, c5, c6], _ =>
    have hCI : Tryz.prog.cellsOf 3 = 1 := by kernel_rfl
    have hCU : Tryz.prog.cellsOf 33 = 1 := by kernel_rfl
    have hCT : Tryz.prog.cellsOf 35 = 3 := by kernel_rfl
    have hCB : Tryz.prog.cellsOf 36 = 1 := by kernel_rfl
    obtain ⟨xs, n', _, hDx, _, hxl, hfl⟩ := DataW.trod_struct Tryz.underlying38 h
    have hxl5 : xs.length = 5 := hxl
    have t0 : DataW.trod enc Tryz.prog w base spare held n' 3 (([c0, c1, c2, c3, c4, c5, c6].drop 0).take (Tryz.prog.cellsOf 3)) = xs[0]? := hfl 0 _ rfl
    have t1 : DataW.trod enc Tryz.prog w base spare held n' 35 (([c0, c1, c2, c3, c4, c5, c6].drop 1).take (Tryz.prog.cellsOf 35)) = xs[1]? := hfl 1 _ rfl
    have t2 : DataW.trod enc Tryz.prog w base spare held n' 33 (([c0, c1, c2, c3, c4, c5, c6].drop 4).take (Tryz.prog.cellsOf 33)) = xs[2]? := hfl 2 _ rfl
    have t3 : DataW.trod enc Tryz.prog w base spare held n' 36 (([c0, c1, c2, c3, c4, c5, c6].drop 5).take (Tryz.prog.cellsOf 36)) = xs[3]? := hfl 3 _ rfl
    have t4 : DataW.trod enc Tryz.prog w base spare held n' 36 (([c0, c1, c2, c3, c4, c5, c6].drop 6).take (Tryz.prog.cellsOf 36)) = xs[4]? := hfl 4 _ rfl
    simp only [hCI, hCU, hCT, hCB, List.drop_zero, List.drop_succ_cons, List.take_succ_cons, List.take_zero] at t0 t1 t2 t3 t4
    match xs, hxl5 with
    | [x0, x1, x2, x3, x4], _ =>
      simp only [List.getElem?_cons_zero, List.getElem?_cons_succ] at t0 t1 t2 t3 t4
      have hx1 : x.1 = .agg [x0.1, x1.1, x2.1, x3.1, x4.1] := congrArg Prod.fst hDx
      obtain ⟨m, e0, w0⟩ := open_int1 Tryz.underlying3 t0
      obtain ⟨z, hz, e1, e2, e3⟩ := tk_of_trod t1
      obtain ⟨i, e4, wi⟩ := open_int1 Tryz.underlying33 t2
      have b := bounds_u32 wi
      obtain ⟨bo, ro, lo⟩ := bools13 t3 (fun k hk => hw k (by
        rw [hx1]
        simp only [DataW.weights, Tryz.underlying38]
        exact DataW.weights_mem_each (j := 3) (t := 36) (d := x3.1) rfl rfl k hk))
      obtain ⟨bm, rm, lm⟩ := bools13 t4 (fun k hk => hw k (by
        rw [hx1]
        simp only [DataW.weights, Tryz.underlying38]
        exact DataW.weights_mem_each (j := 4) (t := 36) (d := x4.1) rfl rfl k hk))
      subst e0 e1 e2 e3 e4
      refine ⟨⟨m, z, i.toNat, c5, c6, bo, bm⟩, ⟨?_, bounds_i64 w0, hz, by simp only; omega, ro, rm, lo, lm⟩⟩
      simp only [OpV13.cells]
      rw [Int.toNat_of_nonneg b.1]
set_option maxRecDepth 100000 in
theorem ops13_open {fuel : Nat} {v : Value} {x : DataW H × List MemPlace} (h : DataW.trod enc Tryz.prog w base spare held fuel 22 [v] = some x) (hw : ∀ n ∈ x.1.weights Tryz.prog 22, n ≤ 140737488351232) : ∃ zs, Ops13Arg w v zs := by
  obtain ⟨zs, _, h2⟩ := open_list (k := 7) (by decide) Tryz.underlying22 (by kernel_rfl) (Op13Ok w) (fun fuel cs y hl hy hw' _ => op13_of_trod hl hy hw') h hw
  refine ⟨zs, h2, ?_⟩
  obtain ⟨a, cap, rfl, _⟩ := h2
  exact len_bound Tryz.underlying22 (by kernel_rfl) h hw
end
end Go.Proofs.YtnohcbdnhpaafaaGreatDoor

