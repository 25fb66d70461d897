/-
  culvertlaw06.Op among the arguments; a script of them.
-/
import Derived.Test.YtfdfibajlggeeaaDoorOpenL
import Derived.Test.YtfdfibajlggeeaaDoorOpenB
import Derived.Test.YtfdfibajlggeeaaDoorOpenF
namespace Go.Proofs.YtfdfibajlggeeaaDoor
open Go.ChangeShapes Go.WideShapes Go.RowKit Go.Deep

structure OpV6 where
  kind : Int
  h : HV
  sl : Value
  ns : List Int
  n : Int
instance : Inhabited OpV6 := ⟨⟨0, ⟨0, 0, 0, 0, 0⟩, .slice none 0 0, [], 0⟩⟩
def OpV6.cells (z : OpV6) : List Value := [.int .i64 z.kind, .int .u8 z.h.v, .int .u8 z.h.t, .int .u16 z.h.f, .int .u32 z.h.s, .int .u32 z.h.l, z.sl, .int .i64 z.n]
/-- what is known of an op -/
def Op6Ok (w : World) (bulk : Nat) (z : OpV6) (cs : List Value) : Prop := cs = z.cells ∧ z.h.ok ∧ Rd w z.sl z.ns ∧ AreBytes z.ns ∧ z.ns.length ≤ 140737488351232 ∧ z.ns.length ≤ bulk

section
variable {H : Type} {enc : TypeId × Value → H} {w : World} {base : Nat} {spare : Nat → Bool} {held : Bool}
theorem list6 {α : Type} {cs : List α} (h : cs.length = 6) : ∃ c0 c1 c2 c3 c4 c5, cs = [c0, c1, c2, c3, c4, c5] := by
  match cs, h with
  | [c0, c1, c2, c3, c4, c5], _ => exact ⟨c0, c1, c2, c3, c4, c5, rfl⟩
theorem list8 {α : Type} {cs : List α} (h : cs.length = 8) : ∃ c0 c1 c2 c3 c4 c5 c6 c7, cs = [c0, c1, c2, c3, c4, c5, c6, c7] := by
  match cs, h with
  | [c0, c1, c2, c3, c4, c5, c6, c7], _ => exact ⟨c0, c1, c2, c3, c4, c5, c6, c7, rfl⟩
/-- a frame's cells -/
theorem frame_of_trod {fuel : Nat} {c0 c1 c2 c3 c4 c5 : Value} {x : DataW H × List MemPlace} (h : DataW.trod enc Tryd.prog w base spare held fuel 31 [c0, c1, c2, c3, c4, c5] = some x) (hw : ∀ n ∈ x.1.weights Tryd.prog 31, n ≤ 140737488351232) :
    ∃ (z : HV) (ns : List Int), z.ok ∧ c0 = .int .u8 z.v ∧ c1 = .int .u8 z.t ∧ c2 = .int .u16 z.f ∧ c3 = .int .u32 z.s ∧ c4 = .int .u32 z.l ∧ Rd w c5 ns ∧ AreBytes ns ∧ ns.length ≤ 140737488351232 ∧ ns.length ≤ Rows.uptoBulk x.1 := by
  have hCH : Tryd.prog.cellsOf 29 = 5 := by kernel_rfl
  have hCB : Tryd.prog.cellsOf 25 = 1 := by kernel_rfl
  obtain ⟨y0, y1, n, hx, _, t0, t1⟩ := trod_struct2 Tryd.underlying31 h
  simp only [hCH, hCB, List.drop_zero, List.drop_succ_cons, List.take_succ_cons, List.take_zero] at t0 t1
  obtain ⟨z, hz, e0, e1, e2, e3, e4⟩ := hdr_of_trod t0
  have hx1 := congrArg Prod.fst hx
  obtain ⟨ns, hr, hb, hl⟩ := bytes_of_trod t1 (fun k hk => hw k (by
    rw [hx1]
    simp only [DataW.weights, Tryd.underlying31]
    exact DataW.weights_mem_each (j := 1) (t := 25) (d := y1.1) rfl rfl k hk))
  refine ⟨z, ns, hz, e0, e1, e2, e3, e4, hr, hb, hl, ?_⟩
  have h1 : ns.length ≤ Rows.uptoBulk y1.1 := by
    obtain ⟨p, c, hv⟩ := hr.shape
    rcases open_ints Tryd.underlying25 Tryd.underlying5 (by kernel_rfl) t1 with ⟨hcs, _⟩ | ⟨a, len, cap, zs, hcs, _, hl, hm, hz, hx, _⟩
    · have hv' : c5 = .slice none 0 0 := by simpa using hcs
      rw [hv] at hv'
      injection hv' with _ e2 _
      omega
    · have hv' : c5 = .slice (some a) len cap := by simpa using hcs
      rw [hv] at hv'
      injection hv' with _ e2 _
      have hlz : len ≤ zs.length := by rw [hz]; split <;> omega
      have := bulk_parts (lits (H := H) .u8 (zs.take len))
      rw [hx]
      simp only [Rows.uptoBulk]
      simp only [lits, List.length_map, List.length_take] at this
      simp only [lits]
      omega
  rw [hx1]
  simp only [Rows.uptoBulk, Rows.uptoBulkAll]
  omega
def Op6Arg (w : World) (v : Value) (z : OpV6) : Prop := v = .agg z.cells.toArray ∧ ∃ b, Op6Ok w b z z.cells
def Ops6Arg (w : World) (v : Value) (zs : List OpV6) : Prop := zs.length ≤ 1048576 ∧ ListAt (Op6Ok w 1048576) 8 w v zs
end
end Go.Proofs.YtfdfibajlggeeaaDoor
