import Derived.Test.YthlblimocfefpaaDoorLnP
import Derived.Test.YthlblimocfefpaaDoorPLnA
import Derived.Test.YthlblimocfefpaaDoorOpenL
import Derived.Lib.SmallJoins
import Derived.OpenShut
import Derived.SizedLaws
import Derived.Deep.Fields
import Derived.Deep.Slices
/-
  A ticket among the arguments.
-/
namespace Go.Proofs.YthlblimocfefpaaDoor
open Go.ChangeShapes Go.WideShapes Go.RowKit

theorem trod_struct3' {H : Type} {enc : TypeId × Value → H} {w : World} {base : Nat} {spare : Nat → Bool} {held : Bool} {P : Program} {t : TypeId} {f0 f1 f2 : Field} {fuel : Nat} {cs : List Value} {x : DataW H × List MemPlace} (ht : P.underlying t = some (.struct #[f0, f1, f2])) (h : DataW.trod enc P w base spare held fuel t cs = some x) :
    ∃ y0 y1 y2 n, x.1 = .agg [y0.1, y1.1, y2.1] ∧ DataW.trod enc P w base spare held n f0.type ((cs.drop f0.offset).take (P.cellsOf f0.type)) = some y0 ∧ DataW.trod enc P w base spare held n f1.type ((cs.drop f1.offset).take (P.cellsOf f1.type)) = some y1 ∧ DataW.trod enc P w base spare held n f2.type ((cs.drop f2.offset).take (P.cellsOf f2.type)) = some y2 := by
  obtain ⟨xs, n, _, rfl, hl, hlen, hf⟩ := DataW.trod_struct ht h
  match xs, hlen with
  | [y0, y1, y2], _ => exact ⟨y0, y1, y2, n, rfl, by simpa using hf 0 f0 rfl, by simpa using hf 1 f1 rfl, by simpa using hf 2 f2 rfl⟩
def TkArg (_w : World) (v : Value) (z : Tk) : Prop := v = tkv z.k z.s z.v ∧ z.Wide
section
variable {H : Type} {enc : TypeId × Value → H} {w : World} {base : Nat} {spare : Nat → Bool} {held : Bool}
theorem tk_of_trod {fuel : Nat} {c0 c1 c2 : Value} {x : DataW H × List MemPlace} (h : DataW.trod enc Tryd.prog w base spare held fuel 29 [c0, c1, c2] = some x) :
    ∃ z : Tk, z.Wide ∧ c0 = .int .i64 z.k ∧ c1 = .int .u32 z.s ∧ c2 = .int .u32 z.v := by
  have cu32 : Tryd.prog.cellsOf 27 = 1 := by kernel_rfl
  have ck : Tryd.prog.cellsOf 26 = 1 := by kernel_rfl
  obtain ⟨y0, y1, y2, n, _, t0, t1, t2⟩ := trod_struct3' Tryd.underlying29 h
  simp only [cu32, ck, List.drop_zero, List.drop_succ_cons, List.take_succ_cons, List.take_zero] at t0 t1 t2
  obtain ⟨z0, v0, w0⟩ := open_int1 Tryd.underlying26 t0
  obtain ⟨z1, v1, w1⟩ := open_int1 Tryd.underlying27 t1
  obtain ⟨z2, v2, w2⟩ := open_int1 Tryd.underlying27 t2
  have b0 := bounds_i64 w0
  have b1 := bounds_u32 w1
  have b2 := bounds_u32 w2
  refine ⟨⟨z0, z1.toNat, z2.toNat⟩, ⟨b0.1, b0.2, ?_, ?_⟩, v0, ?_, ?_⟩
  · simp only; omega
  · simp only; omega
  · rw [v1]; simp only; rw [Int.toNat_of_nonneg b1.1]
  · rw [v2]; simp only; rw [Int.toNat_of_nonneg b2.1]
theorem wide3 {P : Program} {r : Reach} {b0 : Nat} {t : TypeId} {f0 f1 f2 : Field} {v : Value} (hs : P.underlying t = some (.struct #[f0, f1, f2])) (hC : P.cellsOf t = 3) (hv : Value.okWide P w r b0 t v) : ∃ c0 c1 c2, v = .agg #[c0, c1, c2] := by
  obtain ⟨cs, rfl, hsz⟩ := okWide_struct hs hv
  obtain ⟨l⟩ := cs
  match l, hsz.trans hC with
  | [c0, c1, c2], _ => exact ⟨c0, c1, c2, rfl⟩
set_option maxRecDepth 100000 in
theorem tk_open {r : Reach} {b0 : Nat} {v : Value} {d : DataW H} {p : List MemPlace} (hv : Value.okWide Tryd.prog w r b0 29 v)
    (h : DataW.Trod enc Tryd.prog w base spare held 29 v d p) : ∃ z, TkArg w v z := by
  have hC : Tryd.prog.cellsOf 29 = 3 := by kernel_rfl
  have hh := wide3 (P := Tryd.prog) (w := w) (r := r) (b0 := b0) (t := 29) (v := v) Tryd.underlying29 hC
  have h5 := hh hv
  clear hh hC hv
  obtain ⟨c0, c1, c2, hv⟩ := h5
  subst hv
  obtain ⟨fuel, hf⟩ := h
  have hf' : DataW.trod enc Tryd.prog w base spare held fuel 29 [c0, c1, c2] = some (d, p) := hf
  obtain ⟨z, hz, e0, e1, e2⟩ := tk_of_trod hf'
  subst e0 e1 e2
  exact ⟨z, rfl, hz⟩
end
end Go.Proofs.YthlblimocfefpaaDoor

/-
  Law 11's calls (and tickets) among the arguments.
-/
namespace Go.Proofs.YthlblimocfefpaaDoor
open Go.ChangeShapes Go.WideShapes Go.RowKit Go.Deep

structure OpV11 where
  kind : Int
  t : Tk
instance : Inhabited OpV11 := ⟨⟨0, ⟨0, 0, 0⟩⟩⟩
def OpV11.cells (z : OpV11) : List Value := [.int .i64 z.kind, .int .i64 z.t.k, .int .u32 z.t.s, .int .u32 z.t.v]
def Op11Ok (z : OpV11) (cs : List Value) : Prop := cs = z.cells ∧ z.t.Wide
def Tk11Ok (z : Tk) (cs : List Value) : Prop := cs = [.int .i64 z.k, .int .u32 z.s, .int .u32 z.v] ∧ z.Wide
instance : Inhabited Tk := ⟨⟨0, 0, 0⟩⟩
section
variable {H : Type} {enc : TypeId × Value → H} {w : World} {base : Nat} {spare : Nat → Bool} {held : Bool}
theorem trod_struct2' {P : Program} {t : TypeId} {f0 f1 : Field} {fuel : Nat} {cs : List Value} {x : DataW H × List MemPlace} (ht : P.underlying t = some (.struct #[f0, f1])) (h : DataW.trod enc P w base spare held fuel t cs = some x) :
    ∃ y0 y1 n, DataW.trod enc P w base spare held n f0.type ((cs.drop f0.offset).take (P.cellsOf f0.type)) = some y0 ∧ DataW.trod enc P w base spare held n f1.type ((cs.drop f1.offset).take (P.cellsOf f1.type)) = some y1 := by
  obtain ⟨xs, n, _, rfl, hl, hlen, hf⟩ := DataW.trod_struct ht h
  match xs, hlen with
  | [y0, y1], _ => exact ⟨y0, y1, n, by simpa using hf 0 f0 rfl, by simpa using hf 1 f1 rfl⟩
def Ops11Arg (w : World) (v : Value) (zs : List OpV11) : Prop := ListAt Op11Ok 4 w v zs ∧ zs.length * 24 ≤ 140737488351232
def Tks11Arg (w : World) (v : Value) (zs : List Tk) : Prop := ListAt Tk11Ok 3 w v zs ∧ zs.length * 16 ≤ 140737488351232
theorem len_bound {P : Program} {t e : TypeId} {fuel l c by_ : Nat} {q : Option Addr} {x : DataW H × List MemPlace} (ht : P.underlying t = some (.slice e)) (hby : P.bytesOf e = by_) (h : DataW.trod enc P w base spare held fuel t [.slice q l c] = some x) (hw : ∀ n ∈ x.1.weights P t, n ≤ 140737488351232) : l * by_ ≤ 140737488351232 := by
  rcases open_slice ht h with ⟨hv, _⟩ | ⟨a, len, cap, m, n, D, Pl, hv, hb, hl, hm, hmm, rfl, hx⟩
  · simp at hv
    rw [hv.2.1, Nat.zero_mul]
    exact Nat.zero_le _
  · simp at hv
    obtain ⟨_, rfl, _⟩ := hv
    have := hw _ (by simp only [DataW.weights, ht]; exact List.mem_cons_self ..)
    rw [hby, List.length_map, List.length_range, Nat.add_mul] at this
    omega
set_option maxRecDepth 100000 in
theorem tks11_open {fuel : Nat} {v : Value} {x : DataW H × List MemPlace} (h : DataW.trod enc Tryd.prog w base spare held fuel 37 [v] = some x) (hw : ∀ n ∈ x.1.weights Tryd.prog 37, n ≤ 140737488351232) : ∃ zs, Tks11Arg w v zs := by
  obtain ⟨zs, _, h2⟩ := open_list (k := 3) (by decide) Tryd.underlying37 (by kernel_rfl) Tk11Ok (fun fuel cs y hl hy _ _ => by
    match cs, hl with
    | [c0, c1, c2], _ =>
      obtain ⟨z, hz, e1, e2, e3⟩ := tk_of_trod hy
      subst e1 e2 e3
      exact ⟨z, rfl, hz⟩) h hw
  refine ⟨zs, h2, ?_⟩
  obtain ⟨a, cap, rfl, _⟩ := h2
  exact len_bound Tryd.underlying37 (by kernel_rfl) h hw
end
end Go.Proofs.YthlblimocfefpaaDoor

/-
  a list of numbers of 32 bits among the arguments
-/
namespace Go.Proofs.YthlblimocfefpaaDoor
open Go.ChangeShapes Go.WideShapes Go.RowKit Go.Deep

def U32Ok (z : Nat) (cs : List Value) : Prop := cs = [.int .u32 z] ∧ z ≤ 4294967295
def U32sArg (w : World) (v : Value) (zs : List Nat) : Prop := ListAt U32Ok 1 w v zs ∧ zs.length * 4 ≤ 140737488351232
section
variable {H : Type} {enc : TypeId × Value → H} {w : World} {base : Nat} {spare : Nat → Bool} {held : Bool}
set_option maxRecDepth 100000 in
theorem u32s_open {fuel : Nat} {v : Value} {x : DataW H × List MemPlace} (h : DataW.trod enc Tryd.prog w base spare held fuel 39 [v] = some x) (hw : ∀ n ∈ x.1.weights Tryd.prog 39, n ≤ 140737488351232) : ∃ zs, U32sArg w v zs := by
  obtain ⟨zs, _, h2⟩ := open_list (k := 1) (by decide) Tryd.underlying39 (by kernel_rfl) U32Ok (fun fuel cs y hl hy _ _ => by
    match cs, hl with
    | [c0], _ =>
      obtain ⟨n, e, w1⟩ := open_int1 Tryd.underlying27 hy
      have b := bounds_u32 w1
      refine ⟨n.toNat, ?_, by omega⟩
      rw [e, Int.toNat_of_nonneg b.1]) h hw
  refine ⟨zs, h2, ?_⟩
  obtain ⟨a, cap, rfl, _⟩ := h2
  exact len_bound Tryd.underlying39 (by kernel_rfl) h hw
end
end Go.Proofs.YthlblimocfefpaaDoor

