/-
  package trace: the map from keys to their records
-/
import Derived.Test.YtambdgcogldbgaaDoorTrP
import Derived.Test.YtambdgcogldbgaaDoorSn
import Derived.Maps.OwnSet
import Derived.Maps.OwnOps
import Derived.Maps.Keyed
import Derived.MapViews
import Derived.Maps.RangeWalk
namespace Go.Proofs.YtambdgcogldbgaaDoor
open Go.RowKit Go.Maps

def kI (z : Int) : Lit := .int .i64 z
theorem keyed_int : Keyed Tryd.prog 3 := int_keyed Tryd.underlying3
theorem wf_i64 {z : Int} (h : Zw z) : (Lit.int .i64 z).wf = true := by
  have h1 : IntKind.min .i64 = -9223372036854775808 := by decide
  have h2 : IntKind.max .i64 = 9223372036854775807 := by decide
  simp only [Lit.wf, h1, h2, Bool.and_eq_true, decide_eq_true_eq]
  exact h
theorem of_wf_i64 {z : Int} (h : (Lit.int .i64 z).wf = true) : Zw z := by
  have h1 : IntKind.min .i64 = -9223372036854775808 := by decide
  have h2 : IntKind.max .i64 = 9223372036854775807 := by decide
  simp only [Lit.wf, h1, h2, Bool.and_eq_true, decide_eq_true_eq] at h
  exact h
theorem keyOf_int {z : Int} (h : Zw z) : keyOf Tryd.prog 3 (.int .i64 z) = some (kI z) := by
  unfold keyOf mapKey kI
  simp only [Tryd.underlying3]
  simp [wf_i64 h]
theorem kI_inj {z z' : Int} (e : kI z = kI z') : z = z' := by
  unfold kI at e
  injection e
def RhT (v : Value) : Option (DataW Value × List MemPlace) := some (.held v, [])
def dT (zd : DataW Value) : Option Nat → DataW Value
  | none => zd
  | some b => .held (ptr b)
/-- the map holds n keys, each with its record's block -/
def MapT (w : World) (mb n : Nat) (F : Int → Option Nat) : Prop :=
  ∃ D, w.ownsMap Tryd.prog 3 RhT mb n D ∧ Maps.size D = n ∧ ∀ z, Zw z → (∀ zd, D.atKey (kI z) zd = dT zd (F z)) ∧ Maps.has D (kI z) = (F z).isSome

variable {w w' : World} {mb n : Nat} {F : Int → Option Nat} {z : Int}
theorem MapT.lt (h : MapT w mb n F) : mb < w.heap.size := by obtain ⟨D, h, _⟩ := h; exact h.lt
theorem MapT.isMap (h : MapT w mb n F) : ∃ es clock, w.heap[mb]? = some (.map es clock) := by obtain ⟨D, ⟨es, clock, hb, _⟩, _⟩ := h; exact ⟨es, clock, hb⟩
theorem MapT.later {S : Nat → Prop} (h : MapT w mb n F) (hk : Keeps S w w') (hn : ¬ S mb) : MapT w' mb n F := by
  have hlt := h.lt
  obtain ⟨D, ⟨es, clock, hb, F', hs, hD⟩, h1⟩ := h
  exact ⟨D, ⟨es, clock, (hk.block mb hlt hn).trans hb, F', hs, hD⟩, h1⟩
theorem MapT.made (w : World) : MapT (w.alloc (.map #[] 0)) w.heap.size 0 (fun _ => none) :=
  ⟨_, World.ownsMap_made w _ _ _, rfl, fun _ _ => ⟨fun _ => rfl, rfl⟩⟩
theorem MapT.eq {G : Int → Option Nat} (h : MapT w mb n F) (e : ∀ z, Zw z → G z = F z) : MapT w mb n G := by
  obtain ⟨D, h1, h2, h3⟩ := h
  exact ⟨D, h1, h2, fun z hz => by rw [e z hz]; exact h3 z hz⟩
theorem zero_rec (w : World) : (zeroValue 66).run Tryd.prog w = .ok (.pointer none) w := by kernel_rfl
def vT : Option Nat → Value
  | none => .pointer none
  | some b => ptr b
theorem MapT.look (h : MapT w mb n F) (hk : Zw z) : (Instr.lookup 58 (.map (some mb)) (.int .i64 z) true).run Tryd.prog w = .ok (.tuple #[vT (F z), .bool (F z).isSome]) w := by
  obtain ⟨D, h, _, h1⟩ := h
  obtain ⟨h2, h3⟩ := h1 z hk
  obtain ⟨v, ps, hrun, hv⟩ := h.look_ok keyed_int Tryd.underlying58 (zero_rec w) (zd := .held (.pointer none)) (zp := []) rfl (keyOf_int hk)
  rw [h2] at hv
  rw [hrun, h3]
  unfold RhT at hv
  cases hl : F z with
  | none =>
    rw [hl] at hv
    simp only [dT, Option.some.injEq, Prod.mk.injEq, DataW.held.injEq] at hv
    rw [hv.1]
    rfl
  | some v' =>
    rw [hl] at hv
    simp only [dT, Option.some.injEq, Prod.mk.injEq, DataW.held.injEq] at hv
    rw [hv.1]
    rfl
theorem look_none (w : World) (hk : Zw z) : (Instr.lookup 58 (.map none) (.int .i64 z) true).run Tryd.prog w = .ok (.tuple #[.pointer none, .bool false]) w :=
  Maps.look_nil true keyed_int Tryd.underlying58 (zero_rec w) (keyOf_int hk)
theorem MapT.len (h : MapT w mb n F) (ty : TypeId) : (Builtin.len_ #[58] ty #[.map (some mb)]).run Tryd.prog w = .ok (.int .i64 n) w := by
  obtain ⟨D, h, h2, _⟩ := h
  rw [h.len Tryd.underlying58 ty, h2]
theorem keeps_grown {b : Nat} (hg : w.grownBy w' (some b)) : Keeps (fun k => k = b) w w' := ⟨hg.os, hg.tape, hg.output, hg.size, fun k hk hn => hg.block k hk (fun e => hn (by injection e))⟩
def setT (F : Int → Option Nat) (k : Int) (b : Nat) (z : Int) : Option Nat := if z = k then some b else F z
theorem MapT.store (h : MapT w mb n F) (hn : n < maxLen) (hk : Zw z) (b : Nat) : ∃ w', (Instr.mapUpdate 58 (.map (some mb)) (.int .i64 z) (ptr b)).run Tryd.prog w = .ok () w' ∧ MapT w' mb (if (F z).isSome then n else n + 1) (setT F z b) ∧ Keeps (fun x => x = mb) w w' := by
  obtain ⟨D, h, h2, h1⟩ := h
  obtain ⟨w', hrun, hh, hgr⟩ := h.update keyed_int Tryd.underlying58 hn (keyOf_int hk) (val := ptr b) (d := .held (ptr b)) (ps := []) rfl
  have hsz := Maps.size_put (k := kI z) (h.tidy keyed_int) (.held (ptr b))
  rw [(h1 z hk).2, h2] at hsz
  refine ⟨w', hrun, ⟨_, ?_, hsz, fun k' hk' => ?_⟩, keeps_grown hgr⟩
  · obtain ⟨es, clock, hb, F', hs, hD⟩ := hh
    refine ⟨es, clock, hb, F', ?_, hD⟩
    have e : Maps.size (D.put (kI z) (.held (ptr b))) = es.size := by rw [hD]; simp [Maps.size, length_sorted]
    rw [← hsz, e]
    exact Nat.le_refl _
  unfold setT
  split
  · rename_i e
    subst e
    exact ⟨fun zd => atKey_put_same h.isMap (keyed_int.key (keyOf_int hk)) _ _, Maps.has_put_same h.isMap (keyed_int.key (keyOf_int hk)) _⟩
  · rename_i e
    rw [Maps.has_put_other (fun x => e (kI_inj x))]
    exact ⟨fun zd => by rw [atKey_put_other (fun x => e (kI_inj x))]; exact (h1 k' hk').1 zd, (h1 k' hk').2⟩
end Go.Proofs.YtambdgcogldbgaaDoor
