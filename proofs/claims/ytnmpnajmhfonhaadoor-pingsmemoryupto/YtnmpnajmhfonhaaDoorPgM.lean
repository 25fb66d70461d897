/-
  package pings: the map of the tokens that wait
-/
import Derived.Test.YtnmpnajmhfonhaaDoorProg
import Derived.Test.YtnmpnajmhfonhaaDoorPgP
import Derived.Test.YtnmpnajmhfonhaaDoorSoA
import Derived.Maps.OwnSet
import Derived.Maps.OwnOps
import Derived.Maps.Keyed
import Derived.MapViews
import Derived.Maps.RangeWalk
namespace Go.Proofs.YtnmpnajmhfonhaaDoor.Pg
open Go.RowKit Go.Maps

abbrev vv (_ : Unit) : Value := .agg #[]
def kl (k : Nat) : Lit := .int .u32 k
theorem keyed_ : Keyed Tryd.prog 37 := int_keyed Tryd.underlying37
theorem wf_ {k : Nat} (h : k ≤ 4294967295) : (Lit.int .u32 k).wf = true := by
  have h1 : IntKind.min .u32 = 0 := by decide
  have h2 : IntKind.max .u32 = 4294967295 := by decide
  simp only [Lit.wf, h1, h2, Bool.and_eq_true, decide_eq_true_eq]
  omega
theorem of_wf {z : Int} (h : (Lit.int .u32 z).wf = true) : ∃ k : Nat, z = k ∧ k ≤ 4294967295 := by
  have h1 : IntKind.min .u32 = 0 := by decide
  have h2 : IntKind.max .u32 = 4294967295 := by decide
  simp only [Lit.wf, h1, h2, Bool.and_eq_true, decide_eq_true_eq] at h
  exact ⟨z.toNat, by omega, by omega⟩
theorem keyOf_ {k : Nat} (h : k ≤ 4294967295) : keyOf Tryd.prog 37 (e32 k) = some (kl k) := by
  unfold keyOf mapKey kl
  simp only [Tryd.underlying37]
  simp [wf_ h]
theorem kl_inj {k k' : Nat} (e : kl k = kl k') : k = k' := by
  unfold kl at e
  injection e with _ e
  exact Int.ofNat_inj.1 e

/-- an element as it is read: itself -/
def Rh (v : Value) : Option (DataW Value × List MemPlace) := some (.held v, [])
def dF (zd : DataW Value) : Option Unit → DataW Value
  | none => zd
  | some v => .held (vv v)

/-- the map holds L's things -/
def MapV (w : World) (mb : Nat) (L : Tl Unit) : Prop :=
  ∃ D, w.ownsMap Tryd.prog 37 Rh mb L.length D ∧ Maps.size D = L.length ∧ ∀ k, k ≤ 4294967295 → (∀ zd, D.atKey (kl k) zd = dF zd (tlook L k)) ∧ Maps.has D (kl k) = (tlook L k).isSome

variable {w w' : World} {mb : Nat} {L : Tl Unit} {k : Nat}

theorem MapV.lt (h : MapV w mb L) : mb < w.heap.size := by obtain ⟨D, h, _⟩ := h; exact h.lt
theorem MapV.isMap (h : MapV w mb L) : ∃ es clock, w.heap[mb]? = some (.map es clock) := by obtain ⟨D, ⟨es, clock, hb, _⟩, _⟩ := h; exact ⟨es, clock, hb⟩
theorem MapV.later {S : Nat → Prop} (h : MapV w mb L) (hk : Keeps S w w') (hn : ¬ S mb) : MapV w' mb L := by
  have hlt := h.lt
  obtain ⟨D, ⟨es, clock, hb, F', hs, hD⟩, h1⟩ := h
  exact ⟨D, ⟨es, clock, (hk.block mb hlt hn).trans hb, F', hs, hD⟩, h1⟩
theorem MapV.made (w : World) : MapV (w.alloc (.map #[] 0)) w.heap.size [] :=
  ⟨_, World.ownsMap_made w _ _ _, rfl, fun _ _ => ⟨fun _ => rfl, rfl⟩⟩
theorem zero_ (w : World) : (zeroValue 64).run Tryd.prog w = .ok (.agg #[]) w := by kernel_rfl
/-- what a look answers -/
def gotV (o : Option Unit) : Value := match o with
  | none => .agg #[]
  | some v => vv v
theorem MapV.look (h : MapV w mb L) (hk : k ≤ 4294967295) : (Instr.lookup 54 (.map (some mb)) (e32 k) true).run Tryd.prog w = .ok (.tuple #[gotV (tlook L k), .bool (tlook L k).isSome]) w := by
  obtain ⟨D, h, _, h1⟩ := h
  obtain ⟨h2, h3⟩ := h1 k hk
  obtain ⟨v, ps, hrun, hv⟩ := h.look_ok keyed_ Tryd.underlying54 (zero_ w) (zd := .held (.agg #[])) (zp := []) rfl (keyOf_ hk)
  rw [h2] at hv
  rw [hrun, h3]
  unfold Rh at hv
  cases hl : tlook L k with
  | none =>
    rw [hl] at hv
    simp only [dF, Option.some.injEq, Prod.mk.injEq, DataW.held.injEq] at hv
    rw [hv.1]
    rfl
  | some v' =>
    rw [hl] at hv
    simp only [dF, Option.some.injEq, Prod.mk.injEq, DataW.held.injEq] at hv
    rw [hv.1]
    rfl
theorem MapV.len (h : MapV w mb L) (ty : TypeId) : (Builtin.len_ #[54] ty #[.map (some mb)]).run Tryd.prog w = .ok (.int .i64 L.length) w := by
  obtain ⟨D, h, h2, _⟩ := h
  rw [h.len Tryd.underlying54 ty, h2]
theorem keeps_of_grown {b : Nat} (hg : w.grownBy w' (some b)) : Keeps (fun k => k = b) w w' := ⟨hg.os, hg.tape, hg.output, hg.size, fun k hk hn => hg.block k hk (fun e => hn (by injection e))⟩
theorem MapV.store (h : MapV w mb L) (hn : L.length < maxLen) (hk : k ≤ 4294967295) : ∃ w', (Instr.mapUpdate 54 (.map (some mb)) (e32 k) (.agg #[])).run Tryd.prog w = .ok () w' ∧ MapV w' mb (tins L k) ∧ Keeps (fun x => x = mb) w w' := by
  obtain ⟨D, h, h2, h1⟩ := h
  obtain ⟨w', hrun, ho, hg⟩ := h.update keyed_ Tryd.underlying54 hn (keyOf_ hk) (val := .agg #[]) (d := .held (.agg #[])) (ps := []) rfl
  refine ⟨w', hrun, ?_, keeps_of_grown hg⟩
  have hsz := Maps.size_put (k := kl k) (d := .held (.agg #[])) (h.tidy keyed_)
  rw [(h1 k hk).2, h2] at hsz
  have hlen : Maps.size (D.put (kl k) (.held (.agg #[]))) = (tins L k).length := by
    rw [hsz]
    unfold tins
    cases (tlook L k).isSome with
    | true => simp
    | false => simp [len_tput]
  refine ⟨D.put (kl k) (.held (.agg #[])), ?_, hlen, fun k' hk' => ?_⟩
  · obtain ⟨es, clock, hb, F', hs, hD⟩ := ho
    have e : Maps.size (D.put (kl k) (.held (.agg #[]))) = es.size := by
      have : D.put (kl k) (.held (.agg #[])) = _ := hD
      rw [this]; simp [Maps.size, length_sorted]
    exact ⟨es, clock, hb, F', by omega, hD⟩
  rw [tins_at]
  split
  · rename_i e
    subst e
    exact ⟨fun zd => atKey_put_same h.isMap (keyed_.key (keyOf_ hk)) _ _, Maps.has_put_same h.isMap (keyed_.key (keyOf_ hk)) _⟩
  · rename_i e
    rw [Maps.has_put_other (fun x => e (kl_inj x))]
    exact ⟨fun zd => by rw [atKey_put_other (fun x => e (kl_inj x))]; exact (h1 k' hk').1 zd, (h1 k' hk').2⟩
theorem MapV.drop (h : MapV w mb L) (hu : Up L) (hk : k ≤ 4294967295) : ∃ w', (∀ ty, (Builtin.delete_ #[54, 37] ty #[.map (some mb), e32 k]).run Tryd.prog w = .ok (.tuple #[]) w') ∧ MapV w' mb (tdel L k) ∧ Keeps (fun x => x = mb) w w' := by
  obtain ⟨D, h, h2, h1⟩ := h
  obtain ⟨w', hrun, ho, ht⟩ := h.drop keyed_ Tryd.underlying54 (keyOf_ hk) 0
  have hsz := Maps.size_del (k := kl k) (h.tidy keyed_)
  have hlen : Maps.size (D.del (kl k)) = (tdel L k).length := by
    rw [(h1 k hk).2, h2] at hsz
    cases hl : tlook L k with
    | none => rw [hl] at hsz; rw [tdel_absent hl]; simpa using hsz
    | some v => rw [hl] at hsz; have := len_tdel hu hl; simp at hsz; omega
  refine ⟨w', fun ty => hrun, ⟨D.del (kl k), ?_, hlen, fun k' hk' => ?_⟩, keeps_of_grown ht.grown⟩
  · obtain ⟨es, clock, hb, F', hs, hD⟩ := ho
    have e : Maps.size (D.del (kl k)) = es.size := by rw [hD]; simp [Maps.size, length_sorted]
    exact ⟨es, clock, hb, F', by omega, hD⟩
  rw [tlook_tdel]
  split
  · rename_i e
    subst e
    exact ⟨fun zd => atKey_del_same _, Maps.has_del_same⟩
  · rename_i e
    rw [Maps.has_del_other (fun x => e (kl_inj x))]
    exact ⟨fun zd => by rw [atKey_del_other (fun x => e (kl_inj x))]; exact (h1 k' hk').1 zd, (h1 k' hk').2⟩
end Go.Proofs.YtnmpnajmhfonhaaDoor.Pg
