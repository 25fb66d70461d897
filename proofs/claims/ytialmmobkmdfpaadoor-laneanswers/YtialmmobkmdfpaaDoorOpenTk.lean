/-
  A ticket among the arguments.
-/
import Derived.Test.YtialmmobkmdfpaaDoorLnP
import Derived.Test.YtialmmobkmdfpaaDoorLnA
import Derived.Test.YtialmmobkmdfpaaDoorOpenL
import Derived.Lib.SmallJoins
import Derived.OpenShut
import Derived.SizedLaws
namespace Go.Proofs.YtialmmobkmdfpaaDoor
open Go.ChangeShapes Go.WideShapes Go.RowKit

theorem trod_struct3' {H : Type} {enc : TypeId × Value → H} {w : World} {base : Nat} {spare : Nat → Bool} {held : Bool} {P : Program} {t : TypeId} {f0 f1 f2 : Field} {fuel : Nat} {cs : List Value} {x : DataW H × List MemPlace} (ht : P.underlying t = some (.struct #[f0, f1, f2])) (h : DataW.trod enc P w base spare held fuel t cs = some x) :
    ∃ y0 y1 y2 n, x.1 = .agg [y0.1, y1.1, y2.1] ∧ DataW.trod enc P w base spare held n f0.type ((cs.drop f0.offset).take (P.cellsOf f0.type)) = some y0 ∧ DataW.trod enc P w base spare held n f1.type ((cs.drop f1.offset).take (P.cellsOf f1.type)) = some y1 ∧ DataW.trod enc P w base spare held n f2.type ((cs.drop f2.offset).take (P.cellsOf f2.type)) = some y2 := by
  obtain ⟨xs, n, _, rfl, hl, hlen, hf⟩ := DataW.trod_struct ht h
  match xs, hlen with
  | [y0, y1, y2], _ => exact ⟨y0, y1, y2, n, rfl, by simpa using hf 0 f0 rfl, by simpa using hf 1 f1 rfl, by simpa using hf 2 f2 rfl⟩
def TkArg (_w : World) (v : Value) (z : Tk) : Prop := v = tkv z.k z.s z.v ∧ z.Wide
section
variable {H : Type} {enc : TypeId × Value → H} {w : World} {base : Nat} {spare : Nat → Bool} {held : Bool}
theorem tk_of_trod {fuel : Nat} {c0 c1 c2 : Value} {x : DataW H × List MemPlace} (h : DataW.trod enc Tryd.prog w base spare held fuel 30 [c0, c1, c2] = some x) :
    ∃ z : Tk, z.Wide ∧ c0 = .int .i64 z.k ∧ c1 = .int .u32 z.s ∧ c2 = .int .u32 z.v := by
  have cu32 : Tryd.prog.cellsOf 28 = 1 := by kernel_rfl
  have ck : Tryd.prog.cellsOf 27 = 1 := by kernel_rfl
  obtain ⟨y0, y1, y2, n, _, t0, t1, t2⟩ := trod_struct3' Tryd.underlying30 h
  simp only [cu32, ck, List.drop_zero, List.drop_succ_cons, List.take_succ_cons, List.take_zero] at t0 t1 t2
  obtain ⟨z0, v0, w0⟩ := open_int1 Tryd.underlying27 t0
  obtain ⟨z1, v1, w1⟩ := open_int1 Tryd.underlying28 t1
  obtain ⟨z2, v2, w2⟩ := open_int1 Tryd.underlying28 t2
  have b0 := bounds_i64 w0
  have b1 := bounds_u32 w1
  have b2 := bounds_u32 w2
  refine ⟨⟨z0, z1.toNat, z2.toNat⟩, ⟨b0.1, b0.2, ?_, ?_⟩, v0, ?_, ?_⟩
  · simp only; omega
  · simp only; omega
  · rw [v1]; simp only; rw [Int.toNat_of_nonneg b1.1]
  · rw [v2]; simp only; rw [Int.toNat_of_nonneg b2.1]
theorem wide3 {P : Program} {r : Reach} {b0 : Nat} {t : TypeId} {f0 f1 f2 : Field} {v : Value} (hs : P.underlying t = some (.struct #[f0, f1, f2])) (hC : P.cellsOf t = 3) (hv : Value.okWide P w r b0 t v) : ∃ c0 c1 c2, v = .agg #[c0, c1, c2] := by
  obtain ⟨cs, rfl, hsz⟩ := okWide_struct hs hv
  obtain ⟨l⟩ := cs
  match l, hsz.trans hC with
  | [c0, c1, c2], _ => exact ⟨c0, c1, c2, rfl⟩
set_option maxRecDepth 100000 in
theorem tk_open {r : Reach} {b0 : Nat} {v : Value} {d : DataW H} {p : List MemPlace} (hv : Value.okWide Tryd.prog w r b0 30 v)
    (h : DataW.Trod enc Tryd.prog w base spare held 30 v d p) : ∃ z, TkArg w v z := by
  have hC : Tryd.prog.cellsOf 30 = 3 := by kernel_rfl
  have hh := wide3 (P := Tryd.prog) (w := w) (r := r) (b0 := b0) (t := 30) (v := v) Tryd.underlying30 hC
  have h5 := hh hv
  clear hh hC hv
  obtain ⟨c0, c1, c2, hv⟩ := h5
  subst hv
  obtain ⟨fuel, hf⟩ := h
  have hf' : DataW.trod enc Tryd.prog w base spare held fuel 30 [c0, c1, c2] = some (d, p) := hf
  obtain ⟨z, hz, e0, e1, e2⟩ := tk_of_trod hf'
  subst e0 e1 e2
  exact ⟨z, rfl, hz⟩
end
end Go.Proofs.YtialmmobkmdfpaaDoor
