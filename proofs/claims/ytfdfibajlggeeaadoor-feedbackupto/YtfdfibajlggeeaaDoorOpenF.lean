/-
  A header, a frame, and a list of bytes among the arguments.
-/
import Derived.Test.YtfdfibajlggeeaaDoorOpenB
import Derived.Test.YtfdfibajlggeeaaDoorOwnB
import Derived.Test.YtfdfibajlggeeaaDoorFrameA
import Derived.Lib.SmallJoins
import Derived.OpenShut
import Derived.SizedLaws
namespace Go.Proofs.YtfdfibajlggeeaaDoor
open Go.ChangeShapes Go.WideShapes Go.RowKit

/-- a header's numbers -/
structure HV where
  v : Int
  t : Int
  f : Int
  s : Int
  l : Int
def HV.ok (z : HV) : Prop := (0 ≤ z.v ∧ z.v ≤ 255) ∧ (0 ≤ z.t ∧ z.t ≤ 255) ∧ (0 ≤ z.f ∧ z.f ≤ 65535) ∧ (0 ≤ z.s ∧ z.s ≤ 4294967295) ∧ (0 ≤ z.l ∧ z.l ≤ 4294967295)
def HV.val (z : HV) : Value := hdr z.v z.t z.f z.s z.l
def HdrArg (_w : World) (v : Value) (z : HV) : Prop := v = z.val ∧ z.ok
/-- a frame: the header, the payload -/
structure FV where
  h : HV
  sl : Value
  ns : List Int
def FrameArg (w : World) (v : Value) (z : FV) : Prop := v = .agg #[.int .u8 z.h.v, .int .u8 z.h.t, .int .u16 z.h.f, .int .u32 z.h.s, .int .u32 z.h.l, z.sl] ∧ z.h.ok ∧ Rd w z.sl z.ns ∧ AreBytes z.ns ∧ z.ns.length ≤ 140737488351232

section
variable {H : Type} {enc : TypeId × Value → H} {w : World} {base : Nat} {spare : Nat → Bool} {held : Bool}

theorem trod_struct5 {P : Program} {t : TypeId} {f0 f1 f2 f3 f4 : Field} {fuel : Nat} {cs : List Value} {x : DataW H × List MemPlace} (ht : P.underlying t = some (.struct #[f0, f1, f2, f3, f4])) (h : DataW.trod enc P w base spare held fuel t cs = some x) :
    ∃ y0 y1 y2 y3 y4 n, DataW.trod enc P w base spare held n f0.type ((cs.drop f0.offset).take (P.cellsOf f0.type)) = some y0 ∧
      DataW.trod enc P w base spare held n f1.type ((cs.drop f1.offset).take (P.cellsOf f1.type)) = some y1 ∧ DataW.trod enc P w base spare held n f2.type ((cs.drop f2.offset).take (P.cellsOf f2.type)) = some y2 ∧
      DataW.trod enc P w base spare held n f3.type ((cs.drop f3.offset).take (P.cellsOf f3.type)) = some y3 ∧ DataW.trod enc P w base spare held n f4.type ((cs.drop f4.offset).take (P.cellsOf f4.type)) = some y4 := by
  obtain ⟨xs, n, _, rfl, hl, hlen, hf⟩ := DataW.trod_struct ht h
  match xs, hlen with
  | [y0, y1, y2, y3, y4], _ => exact ⟨y0, y1, y2, y3, y4, n, by simpa using hf 0 f0 rfl, by simpa using hf 1 f1 rfl, by simpa using hf 2 f2 rfl, by simpa using hf 3 f3 rfl, by simpa using hf 4 f4 rfl⟩
theorem hdr_of_trod {fuel : Nat} {c0 c1 c2 c3 c4 : Value} {x : DataW H × List MemPlace} (h : DataW.trod enc Tryd.prog w base spare held fuel 29 [c0, c1, c2, c3, c4] = some x) :
    ∃ z : HV, z.ok ∧ c0 = .int .u8 z.v ∧ c1 = .int .u8 z.t ∧ c2 = .int .u16 z.f ∧ c3 = .int .u32 z.s ∧ c4 = .int .u32 z.l := by
  obtain ⟨y0, y1, y2, y3, y4, n, t0, t1, t2, t3, t4⟩ := trod_struct5 Tryd.underlying29 h
  have cu8 : Tryd.prog.cellsOf 5 = 1 := by kernel_rfl
  have cu16 : Tryd.prog.cellsOf 26 = 1 := by kernel_rfl
  have cu32 : Tryd.prog.cellsOf 27 = 1 := by kernel_rfl
  simp only [cu8, cu16, cu32, List.drop_zero, List.drop_succ_cons, List.take_succ_cons, List.take_zero] at t0 t1 t2 t3 t4
  obtain ⟨z0, v0, w0⟩ := open_int1 Tryd.underlying5 t0
  obtain ⟨z1, v1, w1⟩ := open_int1 Tryd.underlying5 t1
  obtain ⟨z2, v2, w2⟩ := open_int1 Tryd.underlying26 t2
  obtain ⟨z3, v3, w3⟩ := open_int1 Tryd.underlying27 t3
  obtain ⟨z4, v4, w4⟩ := open_int1 Tryd.underlying27 t4
  exact ⟨⟨z0, z1, z2, z3, z4⟩, ⟨bounds_u8 w0, bounds_u8 w1, bounds_u16 w2, bounds_u32 w3, bounds_u32 w4⟩, v0, v1, v2, v3, v4⟩

theorem array5 {α : Type} {cs : Array α} (h : cs.size = 5) : ∃ c0 c1 c2 c3 c4, cs = #[c0, c1, c2, c3, c4] := by
  obtain ⟨l⟩ := cs
  match l, h with
  | [c0, c1, c2, c3, c4], _ => exact ⟨c0, c1, c2, c3, c4, rfl⟩
theorem array6 {α : Type} {cs : Array α} (h : cs.size = 6) : ∃ c0 c1 c2 c3 c4 c5, cs = #[c0, c1, c2, c3, c4, c5] := by
  obtain ⟨l⟩ := cs
  match l, h with
  | [c0, c1, c2, c3, c4, c5], _ => exact ⟨c0, c1, c2, c3, c4, c5, rfl⟩

theorem wide5 {P : Program} {r : Reach} {b0 : Nat} {t : TypeId} {f0 f1 f2 f3 f4 : Field} {v : Value} (hs : P.underlying t = some (.struct #[f0, f1, f2, f3, f4])) (hC : P.cellsOf t = 5) (hv : Value.okWide P w r b0 t v) : ∃ c0 c1 c2 c3 c4, v = .agg #[c0, c1, c2, c3, c4] := by
  obtain ⟨cs, rfl, hsz⟩ := okWide_struct hs hv
  obtain ⟨c0, c1, c2, c3, c4, rfl⟩ := array5 (hsz.trans hC)
  exact ⟨c0, c1, c2, c3, c4, rfl⟩
theorem wide6 {P : Program} {r : Reach} {b0 : Nat} {t : TypeId} {f0 f1 : Field} {v : Value} (hs : P.underlying t = some (.struct #[f0, f1])) (hC : P.cellsOf t = 6) (hv : Value.okWide P w r b0 t v) : ∃ c0 c1 c2 c3 c4 c5, v = .agg #[c0, c1, c2, c3, c4, c5] := by
  obtain ⟨cs, rfl, hsz⟩ := okWide_struct hs hv
  obtain ⟨c0, c1, c2, c3, c4, c5, rfl⟩ := array6 (hsz.trans hC)
  exact ⟨c0, c1, c2, c3, c4, c5, rfl⟩
set_option maxRecDepth 100000 in
theorem hdr_open {r : Reach} {b0 : Nat} {v : Value} {d : DataW H} {p : List MemPlace} (hv : Value.okWide Tryd.prog w r b0 29 v)
    (h : DataW.Trod enc Tryd.prog w base spare held 29 v d p) : ∃ z, HdrArg w v z := by
  have hC : Tryd.prog.cellsOf 29 = 5 := by kernel_rfl
  have hh := wide5 (P := Tryd.prog) (w := w) (r := r) (b0 := b0) (t := 29) (v := v) Tryd.underlying29 hC
  have h5 := hh hv
  clear hh hC hv
  obtain ⟨c0, c1, c2, c3, c4, hv⟩ := h5
  subst hv
  obtain ⟨fuel, hf⟩ := h
  have hf' : DataW.trod enc Tryd.prog w base spare held fuel 29 [c0, c1, c2, c3, c4] = some (d, p) := hf
  obtain ⟨z, hz, e0, e1, e2, e3, e4⟩ := hdr_of_trod hf'
  subst e0 e1 e2 e3 e4
  exact ⟨z, rfl, hz⟩

set_option maxRecDepth 100000 in
theorem frame_open {r : Reach} {b0 : Nat} {v : Value} {d : DataW H} {p : List MemPlace} (hv : Value.okWide Tryd.prog w r b0 31 v)
    (h : DataW.Trod enc Tryd.prog w base spare held 31 v d p) (hw : ∀ n ∈ d.weights Tryd.prog 31, n ≤ 140737488351232) : ∃ z, FrameArg w v z := by
  have hCH : Tryd.prog.cellsOf 29 = 5 := by kernel_rfl
  have hCB : Tryd.prog.cellsOf 25 = 1 := by kernel_rfl
  have hC : Tryd.prog.cellsOf 31 = 6 := by kernel_rfl
  have hh := wide6 (P := Tryd.prog) (w := w) (r := r) (b0 := b0) (t := 31) (v := v) Tryd.underlying31 hC
  have h6 := hh hv
  clear hh hC hv
  obtain ⟨c0, c1, c2, c3, c4, c5, hv⟩ := h6
  subst hv
  obtain ⟨fuel, hf⟩ := h
  obtain ⟨y0, y1, n, hx, _, t0, t1⟩ := trod_struct2 Tryd.underlying31 hf
  simp only [hCH, hCB, Value.cells, List.drop_zero, List.drop_succ_cons, List.take_succ_cons, List.take_zero] at t0 t1
  obtain ⟨z, hz, e0, e1, e2, e3, e4⟩ := hdr_of_trod t0
  subst e0 e1 e2 e3 e4
  simp only [Prod.mk.injEq] at hx
  obtain ⟨ns, hr, hb, hl⟩ := bytes_of_trod t1 (fun k hk => hw k (by
    rw [hx.1]
    simp only [DataW.weights, Tryd.underlying31]
    exact DataW.weights_mem_each (j := 1) (t := 25) (d := y1.1) rfl rfl k hk))
  exact ⟨⟨z, c5, ns⟩, rfl, hz, hr, hb, hl⟩
end
end Go.Proofs.YtfdfibajlggeeaaDoor
