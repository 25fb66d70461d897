/-
  A frame among the arguments, with its bulk.
-/
import Derived.Test.YtnifiagkiphjfaaDoorRows
import Derived.Test.YtnifiagkiphjfaaDoorFrameOwn
namespace Go.Proofs.YtnifiagkiphjfaaDoor
open Go.ChangeShapes Go.WideShapes Go.RowKit

theorem bulk_parts {H : Type} : ∀ l : List (DataW H), l.length ≤ Rows.uptoBulkAll l := by
  have one : ∀ d : DataW H, 1 ≤ Rows.uptoBulk d := fun d => by
    unfold Rows.uptoBulk
    split <;> omega
  intro l
  induction l with
  | nil => exact Nat.zero_le _
  | cons d r ih => have := one d; simp only [Rows.uptoBulkAll, List.length_cons]; omega
section
variable {H : Type} {enc : TypeId × Value → H} {w : World} {base : Nat} {spare : Nat → Bool} {held : Bool}
/-- a list of bytes is no longer than its bulk -/
theorem bytes_bulk {P : Program} {t e : TypeId} {fuel : Nat} {v : Value} {ns : List Int} {x : DataW H × List MemPlace} (ht : P.underlying t = some (.slice e)) (he : P.underlying e = some (.int .u8)) (hc : P.cellsOf e = 1)
    (h : DataW.trod enc P w base spare held fuel t [v] = some x) (hr : Rd w v ns) : ns.length ≤ Rows.uptoBulk x.1 := by
  obtain ⟨p, c, hv⟩ := hr.shape
  rcases open_ints ht he hc h with ⟨hcs, _⟩ | ⟨a, len, cap, zs, hcs, _, hl, hm, hz, hx, _⟩
  · have hv' : v = .slice none 0 0 := by simpa using hcs
    rw [hv] at hv'
    injection hv' with _ e2 _
    omega
  · have hv' : v = .slice (some a) len cap := by simpa using hcs
    rw [hv] at hv'
    injection hv' with _ e2 _
    have hlz : len ≤ zs.length := by rw [hz]; split <;> omega
    have := bulk_parts (lits (H := H) .u8 (zs.take len))
    rw [hx]
    simp only [Rows.uptoBulk]
    simp only [lits, List.length_map, List.length_take] at this
    simp only [lits]
    omega
def FrameArgU (w : World) (v : Value) (z : FV) : Prop := FrameArg w v z ∧ z.ns.length ≤ 1048576
set_option maxRecDepth 100000 in
theorem frame_openU {r : Reach} {b0 : Nat} {v : Value} {d : DataW H} {p : List MemPlace} (hv : Value.okWide Tryd.prog w r b0 34 v)
    (h : DataW.Trod enc Tryd.prog w base spare held 34 v d p) (hw : ∀ n ∈ d.weights Tryd.prog 34, n ≤ 140737488351232) (hk : Rows.uptoBulk d ≤ 1048576) : ∃ z, FrameArgU w v z := by
  obtain ⟨z, hz⟩ := frame_open hv h hw
  refine ⟨z, hz, ?_⟩
  obtain ⟨rfl, _, hr, _⟩ := hz
  have hCB : Tryd.prog.cellsOf 32 = 1 := by kernel_rfl
  obtain ⟨fuel, hf⟩ := h
  obtain ⟨y0, y1, n, hx, _, t0, t1⟩ := trod_struct2 Tryd.underlying34 hf
  simp only [hCB, Value.cells, List.drop_succ_cons, List.drop_zero, List.take_succ_cons, List.take_zero] at t1
  simp only [Prod.mk.injEq] at hx
  have h1 := bytes_bulk Tryd.underlying32 Tryd.underlying5 (by kernel_rfl) t1 hr
  rw [hx.1] at hk
  simp only [Rows.uptoBulk, Rows.uptoBulkAll] at hk
  omega
end
theorem frameOwn_walkU {A : Nat → Addr} (v : Value) (z : FV) (w : World) (hs : At4 A w w) (hz : FrameArgU w v z) :
    Calls Tryd.prog 8 #[v] w fun e w' => e = .returned (.bool true) ∧ Below w.heap.size w w' :=
  frameOwn_walk v z w hs hz.1 hz.2
end Go.Proofs.YtnifiagkiphjfaaDoor
