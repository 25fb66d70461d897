/-
  FifoOrder's arguments: a Room, a list of numbers, a list of bools, with their bulk.
-/
import Derived.Test.YtedjgkgffhapiaaDoorOpenL
import Derived.OpenShut
import Derived.SizedLaws
import Derived.Lib.SmallJoins
namespace Go.Proofs.YtedjgkgffhapiaaDoor
open Go.ChangeShapes Go.WideShapes Go.RowKit Go.Deep

structure RoomW where
  t : Int
  r : Int
def RoomWArg (_ : World) (v : Value) (o : RoomW) : Prop := v = .agg #[.int .i64 o.t, .int .i64 o.r] ∧ o.t ≤ 9223372036854775807 ∧ o.r ≤ 9223372036854775807
def IntOk (z : Int) (cs : List Value) : Prop := cs = [.int .i64 z] ∧ (-9223372036854775808 ≤ z ∧ z ≤ 9223372036854775807)
def BoolOk (z : Bool) (cs : List Value) : Prop := cs = [.bool z]
def IntsFArg (w : World) (v : Value) (zs : List Int) : Prop := ListAt IntOk 1 w v zs ∧ zs.length ≤ 1048576
def BoolsFArg (w : World) (v : Value) (zs : List Bool) : Prop := ListAt BoolOk 1 w v zs ∧ zs.length ≤ 1048576

section
variable {H : Type} {enc : TypeId × Value → H} {w : World} {base : Nat} {spare : Nat → Bool} {held : Bool}
set_option maxRecDepth 100000 in
theorem roomW_open {r : Reach} {b0 : Nat} {v : Value} {d : DataW H} {p : List MemPlace} (hv : Value.okWide Tryd.prog w r b0 23 v)
    (h : DataW.Trod enc Tryd.prog w base spare held 23 v d p) : ∃ o, RoomWArg w v o := by
  obtain ⟨v0, v1, y0, y1, n, rfl, _, _, h0, h1⟩ := Go.Joins.open_agg2 (P := Tryd.prog) (t := 23) Tryd.underlying23 (by kernel_rfl) (by kernel_rfl) hv h
  obtain ⟨z0, rfl, w0⟩ := open_int1 Tryd.underlying3 h0
  obtain ⟨z1, rfl, w1⟩ := open_int1 Tryd.underlying3 h1
  exact ⟨⟨z0, z1⟩, rfl, (bounds_i64 w0).2, (bounds_i64 w1).2⟩
theorem one1 {α : Type} {cs : List α} (h : cs.length = 1) : ∃ c0, cs = [c0] := by
  match cs, h with
  | [c0], _ => exact ⟨c0, rfl⟩
set_option maxRecDepth 100000 in
theorem intsF_open {fuel : Nat} {v : Value} {x : DataW H × List MemPlace} (h : DataW.trod enc Tryd.prog w base spare held fuel 24 [v] = some x) (hw : ∀ n ∈ x.1.weights Tryd.prog 24, n ≤ 140737488351232) (hk : Rows.uptoBulk x.1 ≤ 1048576) : ∃ zs, IntsFArg w v zs := by
  obtain ⟨zs, h1, h2⟩ := open_list (k := 1) (by decide) Tryd.underlying24 (by kernel_rfl) IntOk (fun fuel cs y hl hy hw' hb => by
    obtain ⟨c0, rfl⟩ := one1 hl
    obtain ⟨n, e, w1⟩ := open_int1 Tryd.underlying3 hy
    subst e
    exact ⟨n, rfl, bounds_i64 w1⟩) h hw
  exact ⟨zs, h2, Nat.le_trans h1 hk⟩
set_option maxRecDepth 100000 in
theorem boolsF_open {fuel : Nat} {v : Value} {x : DataW H × List MemPlace} (h : DataW.trod enc Tryd.prog w base spare held fuel 25 [v] = some x) (hw : ∀ n ∈ x.1.weights Tryd.prog 25, n ≤ 140737488351232) (hk : Rows.uptoBulk x.1 ≤ 1048576) : ∃ zs, BoolsFArg w v zs := by
  obtain ⟨zs, h1, h2⟩ := open_list (k := 1) (by decide) Tryd.underlying25 (by kernel_rfl) BoolOk (fun fuel cs y hl hy hw' hb => by
    obtain ⟨c0, rfl⟩ := one1 hl
    obtain ⟨b, e0, _⟩ := DataW.trod_bool Tryd.underlying4 hy
    obtain rfl : c0 = .bool b := by simpa using e0
    exact ⟨b, rfl⟩) h hw
  exact ⟨zs, h2, Nat.le_trans h1 hk⟩
theorem IntsF.read {w0 : World} {sa : Option Addr} {zs : List Int}
    (hat : ∀ i z, zs[i]? = some z → ∃ b o cs, sa = some ⟨b, o, none⟩ ∧ IntOk z cs ∧ cs.length = 1 ∧ ∀ j, j < 1 → w0.cell? ⟨b, o + i * 1 + j, none⟩ = cs[j]?) (k : Nat) (n : Int) (hk : zs[k]? = some n) :
    ∃ (sb so : Nat), (-9223372036854775808 ≤ n ∧ n ≤ 9223372036854775807) ∧ sa = some ⟨sb, so, none⟩ ∧ w0.cell? ⟨sb, so + k, none⟩ = some (.int .i64 n) := by
  obtain ⟨sb, so, cs, rfl, hok, hl, hc⟩ := hat k n hk
  have e := hok.1
  subst e
  have h0 := hc 0 (by decide)
  rw [Nat.mul_one, Nat.add_zero] at h0
  exact ⟨sb, so, hok.2, rfl, h0⟩
theorem BoolsF.read {w0 : World} {sa : Option Addr} {zs : List Bool}
    (hat : ∀ i z, zs[i]? = some z → ∃ b o cs, sa = some ⟨b, o, none⟩ ∧ BoolOk z cs ∧ cs.length = 1 ∧ ∀ j, j < 1 → w0.cell? ⟨b, o + i * 1 + j, none⟩ = cs[j]?) (k : Nat) (n : Bool) (hk : zs[k]? = some n) :
    ∃ (sb so : Nat), sa = some ⟨sb, so, none⟩ ∧ w0.cell? ⟨sb, so + k, none⟩ = some (.bool n) := by
  obtain ⟨sb, so, cs, rfl, hok, hl, hc⟩ := hat k n hk
  have e : cs = [.bool n] := hok
  subst e
  have h0 := hc 0 (by decide)
  rw [Nat.mul_one, Nat.add_zero] at h0
  exact ⟨sb, so, rfl, h0⟩
end
end Go.Proofs.YtedjgkgffhapiaaDoor
