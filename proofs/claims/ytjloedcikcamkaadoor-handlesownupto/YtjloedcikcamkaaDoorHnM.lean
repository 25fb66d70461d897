/-
  package handles: the map from handles to places
-/
import Derived.Test.YtjloedcikcamkaaDoorHnP
import Derived.Test.YtjloedcikcamkaaDoorSn
import Derived.Maps.OwnSet
import Derived.Maps.OwnOps
import Derived.Maps.Keyed
import Derived.MapViews
import Derived.Maps.RangeWalk
namespace Go.Proofs.YtjloedcikcamkaaDoor
open Go.RowKit Go.Maps

def Zw (z : Int) : Prop := -9223372036854775808 ≤ z ∧ z ≤ 9223372036854775807
abbrev pv (p : Pl) : Value := .agg #[.int .i64 p.c, .int .i64 p.l, .int .u32 p.d]
def kI (z : Int) : Lit := .int .i64 z
theorem keyed_int : Keyed Tryd.prog 3 := int_keyed Tryd.underlying3
theorem wf_i64 {z : Int} (h : Zw z) : (Lit.int .i64 z).wf = true := by
  have h1 : IntKind.min .i64 = -9223372036854775808 := by decide
  have h2 : IntKind.max .i64 = 9223372036854775807 := by decide
  simp only [Lit.wf, h1, h2, Bool.and_eq_true, decide_eq_true_eq]
  exact h
theorem of_wf_i64 {z : Int} (h : (Lit.int .i64 z).wf = true) : Zw z := by
  have h1 : IntKind.min .i64 = -9223372036854775808 := by decide
  have h2 : IntKind.max .i64 = 9223372036854775807 := by decide
  simp only [Lit.wf, h1, h2, Bool.and_eq_true, decide_eq_true_eq] at h
  exact h
theorem keyOf_int {z : Int} (h : Zw z) : keyOf Tryd.prog 3 (.int .i64 z) = some (kI z) := by
  unfold keyOf mapKey kI
  simp only [Tryd.underlying3]
  simp [wf_i64 h]
theorem kI_inj {z z' : Int} (e : kI z = kI z') : z = z' := by
  unfold kI at e
  injection e
def RhP (v : Value) : Option (DataW Value × List MemPlace) := some (.held v, [])
def dP (zd : DataW Value) : Option Pl → DataW Value
  | none => zd
  | some p => .held (pv p)
/-- the map holds L's places by their handles -/
def MapP (w : World) (mb : Nat) (L : Hl) : Prop :=
  ∃ D, w.ownsMap Tryd.prog 3 RhP mb L.length D ∧ Maps.size D = L.length ∧ ∀ z, Zw z → (∀ zd, D.atKey (kI z) zd = dP zd (hfind L z)) ∧ Maps.has D (kI z) = (hfind L z).isSome

variable {w w' : World} {mb g : Nat} {L : Hl} {z : Int}
theorem MapP.lt (h : MapP w mb L) : mb < w.heap.size := by obtain ⟨D, h, _⟩ := h; exact h.lt
theorem MapP.isMap (h : MapP w mb L) : ∃ es clock, w.heap[mb]? = some (.map es clock) := by obtain ⟨D, ⟨es, clock, hb, _⟩, _⟩ := h; exact ⟨es, clock, hb⟩
theorem MapP.later {S : Nat → Prop} (h : MapP w mb L) (hk : Keeps S w w') (hn : ¬ S mb) : MapP w' mb L := by
  have hlt := h.lt
  obtain ⟨D, ⟨es, clock, hb, F', hs, hD⟩, h1⟩ := h
  exact ⟨D, ⟨es, clock, (hk.block mb hlt hn).trans hb, F', hs, hD⟩, h1⟩
theorem MapP.made (w : World) : MapP (w.alloc (.map #[] 0)) w.heap.size [] :=
  ⟨_, World.ownsMap_made w _ _ _, rfl, fun _ _ => ⟨fun _ => rfl, rfl⟩⟩
theorem zero_pl (w : World) : (zeroValue 33).run Tryd.prog w = .ok (pv ⟨0, 0, 0⟩) w := by kernel_rfl
def gotP (o : Option Pl) : Pl := o.getD ⟨0, 0, 0⟩
theorem MapP.look (h : MapP w mb L) (hk : Zw z) : (Instr.lookup 59 (.map (some mb)) (.int .i64 z) true).run Tryd.prog w = .ok (.tuple #[pv (gotP (hfind L z)), .bool (hfind L z).isSome]) w := by
  obtain ⟨D, h, _, h1⟩ := h
  obtain ⟨h2, h3⟩ := h1 z hk
  obtain ⟨v, ps, hrun, hv⟩ := h.look_ok keyed_int Tryd.underlying59 (zero_pl w) (zd := .held (pv ⟨0, 0, 0⟩)) (zp := []) rfl (keyOf_int hk)
  rw [h2] at hv
  rw [hrun, h3]
  unfold RhP at hv
  cases hl : hfind L z with
  | none =>
    rw [hl] at hv
    simp only [dP, Option.some.injEq, Prod.mk.injEq, DataW.held.injEq] at hv
    rw [hv.1]
    rfl
  | some v' =>
    rw [hl] at hv
    simp only [dP, Option.some.injEq, Prod.mk.injEq, DataW.held.injEq] at hv
    rw [hv.1]
    rfl
theorem MapP.len (h : MapP w mb L) (ty : TypeId) : (Builtin.len_ #[59] ty #[.map (some mb)]).run Tryd.prog w = .ok (.int .i64 L.length) w := by
  obtain ⟨D, h, h2, _⟩ := h
  rw [h.len Tryd.underlying59 ty, h2]
theorem keeps_grown {b : Nat} (hg : w.grownBy w' (some b)) : Keeps (fun k => k = b) w w' := ⟨hg.os, hg.tape, hg.output, hg.size, fun k hk hn => hg.block k hk (fun e => hn (by injection e))⟩
theorem MapP.store (h : MapP w mb L) (ho : HOk g L) (hg : g < 2147483648) (p : Pl) : ∃ w', (Instr.mapUpdate 59 (.map (some mb)) (.int .i64 ((g : Int) + 1)) (pv p)).run Tryd.prog w = .ok () w' ∧ MapP w' mb (L ++ [((g : Int) + 1, p)]) ∧ Keeps (fun x => x = mb) w w' := by
  have hn : L.length < maxLen := Nat.lt_of_le_of_lt ho.len (Nat.lt_trans hg (by decide))
  have hk : Zw ((g : Int) + 1) := ⟨by omega, by omega⟩
  obtain ⟨D, h, h2, h1⟩ := h
  obtain ⟨w', hrun, hh, hgr⟩ := h.update keyed_int Tryd.underlying59 hn (keyOf_int hk) (val := pv p) (d := .held (pv p)) (ps := []) rfl
  refine ⟨w', hrun, ⟨_, by rw [List.length_append]; exact hh, ?_, fun k' hk' => ?_⟩, keeps_grown hgr⟩
  · rw [Maps.size_put (h.tidy keyed_int), (h1 _ hk).2, ho.last (by omega), h2, List.length_append]; rfl
  rw [ho.find_bind]
  split
  · rename_i e
    subst e
    exact ⟨fun zd => atKey_put_same h.isMap (keyed_int.key (keyOf_int hk)) _ _, Maps.has_put_same h.isMap (keyed_int.key (keyOf_int hk)) _⟩
  · rename_i e
    rw [Maps.has_put_other (fun x => e (kI_inj x))]
    exact ⟨fun zd => by rw [atKey_put_other (fun x => e (kI_inj x))]; exact (h1 k' hk').1 zd, (h1 k' hk').2⟩
theorem MapP.drop (h : MapP w mb L) (ho : HOk g L) (hk : Zw z) : ∃ w', (∀ ty, (Builtin.delete_ #[59, 3] ty #[.map (some mb), .int .i64 z]).run Tryd.prog w = .ok (.tuple #[]) w') ∧ MapP w' mb (hdel L z) ∧ Keeps (fun x => x = mb) w w' := by
  obtain ⟨D, h, h2, h1⟩ := h
  obtain ⟨w', hrun, hh, ht⟩ := h.drop keyed_int Tryd.underlying59 (keyOf_int hk) 0
  have hsz := Maps.size_del (k := kI z) (h.tidy keyed_int)
  have hlen : Maps.size (D.del (kI z)) = (hdel L z).length := by
    rw [(h1 z hk).2, h2] at hsz
    cases hl : hfind L z with
    | none => rw [hl] at hsz; rw [hdel_absent hl]; simpa using hsz
    | some v => rw [hl] at hsz; have := ho.len_del hl; simp at hsz; omega
  refine ⟨w', fun ty => hrun, ⟨D.del (kI z), ?_, hlen, fun k' hk' => ?_⟩, keeps_grown ht.grown⟩
  · obtain ⟨es, clock, hb, F', hs, hD⟩ := hh
    have e : Maps.size (D.del (kI z)) = es.size := by rw [hD]; simp [Maps.size, length_sorted]
    exact ⟨es, clock, hb, F', by omega, hD⟩
  rw [hfind_del]
  split
  · rename_i e
    subst e
    exact ⟨fun zd => atKey_del_same _, Maps.has_del_same⟩
  · rename_i e
    rw [Maps.has_del_other (fun x => e (kI_inj x))]
    exact ⟨fun zd => by rw [atKey_del_other (fun x => e (kI_inj x))]; exact (h1 k' hk').1 zd, (h1 k' hk').2⟩
end Go.Proofs.YtjloedcikcamkaaDoor
