/-
  Law 12's calls among the arguments.
-/
import Derived.Test.YtekokdfajbajoaaDoorOpenL
import Derived.Test.YtekokdfajbajoaaDoorProg
import Derived.OpenShut
import Derived.SizedLaws
namespace Go.Proofs.YtekokdfajbajoaaDoor
open Go.ChangeShapes Go.WideShapes Go.RowKit Go.Deep

structure OpV12 where
  kind : Int
  k : Int
instance : Inhabited OpV12 := ⟨⟨0, 0⟩⟩
def Op12Ok (z : OpV12) (cs : List Value) : Prop := cs = [.int .i64 z.kind, .int .i64 z.k] ∧ -9223372036854775808 ≤ z.k ∧ z.k ≤ 9223372036854775807
section
variable {H : Type} {enc : TypeId × Value → H} {w : World} {base : Nat} {spare : Nat → Bool} {held : Bool}
theorem wf_i64 {m : Int} (h : (Lit.int .i64 m).wf = true) : -9223372036854775808 ≤ m ∧ m ≤ 9223372036854775807 := by
  have h1 : IntKind.min .i64 = -9223372036854775808 := by decide
  have h2 : IntKind.max .i64 = 9223372036854775807 := by decide
  simp only [Lit.wf, h1, h2, Bool.and_eq_true, decide_eq_true_eq] at h
  exact h
theorem trod_struct2R {P : Program} {t : TypeId} {f0 f1 : Field} {fuel : Nat} {cs : List Value} {x : DataW H × List MemPlace} (ht : P.underlying t = some (.struct #[f0, f1])) (h : DataW.trod enc P w base spare held fuel t cs = some x) :
    ∃ y0 y1 n, DataW.trod enc P w base spare held n f0.type ((cs.drop f0.offset).take (P.cellsOf f0.type)) = some y0 ∧ DataW.trod enc P w base spare held n f1.type ((cs.drop f1.offset).take (P.cellsOf f1.type)) = some y1 := by
  obtain ⟨xs, n, _, rfl, hl, hlen, hf⟩ := DataW.trod_struct ht h
  match xs, hlen with
  | [y0, y1], _ => exact ⟨y0, y1, n, by simpa using hf 0 f0 rfl, by simpa using hf 1 f1 rfl⟩
set_option maxRecDepth 100000 in
theorem op12_of_trod {fuel : Nat} {cs : List Value} {x : DataW H × List MemPlace} (hl : cs.length = 2) (h : DataW.trod enc Tryd.prog w base spare held fuel 31 cs = some x) : ∃ z, Op12Ok z cs := by
  match cs, hl with
  | [c0, c1], _ =>
    have hCI : Tryd.prog.cellsOf 3 = 1 := by kernel_rfl
    obtain ⟨y0, y1, n, t0, t1⟩ := trod_struct2R Tryd.underlying31 h
    simp only [hCI, List.drop_zero, List.drop_succ_cons, List.take_succ_cons, List.take_zero] at t0 t1
    obtain ⟨m, e0, _⟩ := open_int1 Tryd.underlying3 t0
    obtain ⟨m', e1, hw⟩ := open_int1 Tryd.underlying3 t1
    subst e0 e1
    exact ⟨⟨m, m'⟩, rfl, wf_i64 hw⟩
theorem len_bound12 {P : Program} {t e : TypeId} {fuel l c by_ : Nat} {q : Option Addr} {x : DataW H × List MemPlace} (ht : P.underlying t = some (.slice e)) (hby : P.bytesOf e = by_) (h : DataW.trod enc P w base spare held fuel t [.slice q l c] = some x) (hw : ∀ n ∈ x.1.weights P t, n ≤ 140737488351232) : l * by_ ≤ 140737488351232 := by
  rcases open_slice ht h with ⟨hv, _⟩ | ⟨a, len, cap, m, n, D, Pl, hv, hb, hl, hm, hmm, rfl, hx⟩
  · simp at hv
    rw [hv.2.1, Nat.zero_mul]
    exact Nat.zero_le _
  · simp at hv
    obtain ⟨_, rfl, _⟩ := hv
    have := hw _ (by simp only [DataW.weights, ht]; exact List.mem_cons_self ..)
    rw [hby, List.length_map, List.length_range, Nat.add_mul] at this
    omega
def Ops12Arg (w : World) (v : Value) (zs : List OpV12) : Prop := ListAt Op12Ok 2 w v zs ∧ zs.length * 16 ≤ 140737488351232
set_option maxRecDepth 100000 in
theorem ops12_open {fuel : Nat} {v : Value} {x : DataW H × List MemPlace} (h : DataW.trod enc Tryd.prog w base spare held fuel 22 [v] = some x) (hw : ∀ n ∈ x.1.weights Tryd.prog 22, n ≤ 140737488351232) : ∃ zs, Ops12Arg w v zs := by
  obtain ⟨zs, _, h2⟩ := open_list (k := 2) (by decide) Tryd.underlying22 (by kernel_rfl) Op12Ok (fun fuel cs y hl hy _ _ => op12_of_trod hl hy) h hw
  refine ⟨zs, h2, ?_⟩
  obtain ⟨a, cap, rfl, _⟩ := h2
  exact len_bound12 Tryd.underlying22 (by kernel_rfl) h hw
end
end Go.Proofs.YtekokdfajbajoaaDoor
