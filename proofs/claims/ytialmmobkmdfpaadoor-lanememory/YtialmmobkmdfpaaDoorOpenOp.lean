/-
  Law 11's calls (and tickets) among the arguments.
-/
import Derived.Test.YtialmmobkmdfpaaDoorOpenTk
import Derived.Deep.Fields
import Derived.Deep.Slices
namespace Go.Proofs.YtialmmobkmdfpaaDoor
open Go.ChangeShapes Go.WideShapes Go.RowKit Go.Deep

structure OpV11 where
  kind : Int
  t : Tk
instance : Inhabited OpV11 := ⟨⟨0, ⟨0, 0, 0⟩⟩⟩
def OpV11.cells (z : OpV11) : List Value := [.int .i64 z.kind, .int .i64 z.t.k, .int .u32 z.t.s, .int .u32 z.t.v]
def Op11Ok (z : OpV11) (cs : List Value) : Prop := cs = z.cells ∧ z.t.Wide
def Tk11Ok (z : Tk) (cs : List Value) : Prop := cs = [.int .i64 z.k, .int .u32 z.s, .int .u32 z.v] ∧ z.Wide
instance : Inhabited Tk := ⟨⟨0, 0, 0⟩⟩
section
variable {H : Type} {enc : TypeId × Value → H} {w : World} {base : Nat} {spare : Nat → Bool} {held : Bool}
theorem trod_struct2' {P : Program} {t : TypeId} {f0 f1 : Field} {fuel : Nat} {cs : List Value} {x : DataW H × List MemPlace} (ht : P.underlying t = some (.struct #[f0, f1])) (h : DataW.trod enc P w base spare held fuel t cs = some x) :
    ∃ y0 y1 n, DataW.trod enc P w base spare held n f0.type ((cs.drop f0.offset).take (P.cellsOf f0.type)) = some y0 ∧ DataW.trod enc P w base spare held n f1.type ((cs.drop f1.offset).take (P.cellsOf f1.type)) = some y1 := by
  obtain ⟨xs, n, _, rfl, hl, hlen, hf⟩ := DataW.trod_struct ht h
  match xs, hlen with
  | [y0, y1], _ => exact ⟨y0, y1, n, by simpa using hf 0 f0 rfl, by simpa using hf 1 f1 rfl⟩
set_option maxRecDepth 100000 in
theorem op11_of_trod {fuel : Nat} {cs : List Value} {x : DataW H × List MemPlace} (hl : cs.length = 4) (h : DataW.trod enc Tryd.prog w base spare held fuel 32 cs = some x) : ∃ z, Op11Ok z cs := by
  match cs, hl with
  | [c0, c1, c2, c3], _ =>
    have hCI : Tryd.prog.cellsOf 3 = 1 := by kernel_rfl
    have hCT : Tryd.prog.cellsOf 30 = 3 := by kernel_rfl
    obtain ⟨y0, y1, n, t0, t1⟩ := trod_struct2' Tryd.underlying32 h
    simp only [hCI, hCT, List.drop_zero, List.drop_succ_cons, List.take_succ_cons, List.take_zero] at t0 t1
    obtain ⟨m, e0, _⟩ := open_int1 Tryd.underlying3 t0
    obtain ⟨z, hz, e1, e2, e3⟩ := tk_of_trod t1
    subst e0 e1 e2 e3
    exact ⟨⟨m, z⟩, rfl, hz⟩
def Ops11Arg (w : World) (v : Value) (zs : List OpV11) : Prop := ListAt Op11Ok 4 w v zs ∧ zs.length * 24 ≤ 140737488351232
def Tks11Arg (w : World) (v : Value) (zs : List Tk) : Prop := ListAt Tk11Ok 3 w v zs ∧ zs.length * 16 ≤ 140737488351232
theorem len_bound {P : Program} {t e : TypeId} {fuel l c by_ : Nat} {q : Option Addr} {x : DataW H × List MemPlace} (ht : P.underlying t = some (.slice e)) (hby : P.bytesOf e = by_) (h : DataW.trod enc P w base spare held fuel t [.slice q l c] = some x) (hw : ∀ n ∈ x.1.weights P t, n ≤ 140737488351232) : l * by_ ≤ 140737488351232 := by
  rcases open_slice ht h with ⟨hv, _⟩ | ⟨a, len, cap, m, n, D, Pl, hv, hb, hl, hm, hmm, rfl, hx⟩
  · simp at hv
    rw [hv.2.1, Nat.zero_mul]
    exact Nat.zero_le _
  · simp at hv
    obtain ⟨_, rfl, _⟩ := hv
    have := hw _ (by simp only [DataW.weights, ht]; exact List.mem_cons_self ..)
    rw [hby, List.length_map, List.length_range, Nat.add_mul] at this
    omega
set_option maxRecDepth 100000 in
theorem ops11_open {fuel : Nat} {v : Value} {x : DataW H × List MemPlace} (h : DataW.trod enc Tryd.prog w base spare held fuel 22 [v] = some x) (hw : ∀ n ∈ x.1.weights Tryd.prog 22, n ≤ 140737488351232) : ∃ zs, Ops11Arg w v zs := by
  obtain ⟨zs, _, h2⟩ := open_list (k := 4) (by decide) Tryd.underlying22 (by kernel_rfl) Op11Ok (fun fuel cs y hl hy _ _ => op11_of_trod hl hy) h hw
  refine ⟨zs, h2, ?_⟩
  obtain ⟨a, cap, rfl, _⟩ := h2
  exact len_bound Tryd.underlying22 (by kernel_rfl) h hw
set_option maxRecDepth 100000 in
theorem tks11_open {fuel : Nat} {v : Value} {x : DataW H × List MemPlace} (h : DataW.trod enc Tryd.prog w base spare held fuel 26 [v] = some x) (hw : ∀ n ∈ x.1.weights Tryd.prog 26, n ≤ 140737488351232) : ∃ zs, Tks11Arg w v zs := by
  obtain ⟨zs, _, h2⟩ := open_list (k := 3) (by decide) Tryd.underlying26 (by kernel_rfl) Tk11Ok (fun fuel cs y hl hy _ _ => by
    match cs, hl with
    | [c0, c1, c2], _ =>
      obtain ⟨z, hz, e1, e2, e3⟩ := tk_of_trod hy
      subst e1 e2 e3
      exact ⟨z, rfl, hz⟩) h hw
  refine ⟨zs, h2, ?_⟩
  obtain ⟨a, cap, rfl, _⟩ := h2
  exact len_bound Tryd.underlying26 (by kernel_rfl) h hw
end
end Go.Proofs.YtialmmobkmdfpaaDoor
