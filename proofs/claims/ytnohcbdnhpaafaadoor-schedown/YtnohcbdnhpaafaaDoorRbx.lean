import Derived.Test.YtnohcbdnhpaafaaDoorProg
import Derived.Test.YtnohcbdnhpaafaaDoorRbP
import Derived.Test.YtnohcbdnhpaafaaDoorSnA
import Derived.Maps.OwnSet
import Derived.Maps.OwnOps
import Derived.Maps.Keyed
import Derived.MapViews
import Derived.Test.YtnohcbdnhpaafaaDoorChecked
import Derived.Defers
import Derived.Recover
import Derived.BigQuiet
import Derived.Deep.Cut
import Derived.Deep.RegionHeld3
import Derived.Deep.RegionHeldLaw
import Derived.Deep.DeepCutAuto
import Derived.LaidEqlPtr
/-
  package robin: the table of seats (a map from a key to its seat's box), keys of type uint32
-/
namespace Go.Proofs.YtnohcbdnhpaafaaDoor.Rbuint32
open Go.RowKit Go.Maps

abbrev kv (k : Nat) : Value := .int .u32 k
def kl (k : Nat) : Lit := .int .u32 k
/-- what a key may be -/
def Ky (k : Nat) : Prop := k ≤ 4294967295
theorem keyed_ : Keyed Tryd.prog 27 := int_keyed Tryd.underlying27
theorem keyOf_kv {k : Nat} (h : Ky k) : keyOf Tryd.prog 27 (kv k) = some (kl k) := by
  unfold keyOf mapKey kl
  simp only [Tryd.underlying27]
  have h1 : IntKind.min .u32 = 0 := by decide
  have h2 : IntKind.max .u32 = 4294967295 := by decide
  have h0 : k ≤ 4294967295 := h
  have h3 : (Lit.int .u32 k).wf = true := by simp only [Lit.wf, h1, h2, Bool.and_eq_true, decide_eq_true_eq]; omega
  simp [h3]
theorem kv_inj {k k' : Nat} (e : kv k = kv k') : k = k' := by
  first
    | (simpa using e)
    | exact Int.ofNat_inj.1 (by simpa using e)
theorem kl_inj {k k' : Nat} (h : Ky k) (h' : Ky k') (e : kl k = kl k') : k = k' := by
  have h1 := keyOf_kv h
  rw [e] at h1
  exact kv_inj (keyed_.inj h1 (keyOf_kv h'))

def Rp (v : Value) : Option (DataW Unit × List MemPlace) := match v with
  | .pointer none => some (.nil, [])
  | .pointer (some ⟨b, 0, none⟩) => some (.lit (.int .i64 b), [])
  | _ => none
def dF : Option Nat → DataW Unit
  | none => .nil
  | some b => .lit (.int .i64 b)
def vF : Option Nat → Value
  | none => .pointer none
  | some b => ptr b
theorem rp_inv {v : Value} {o : Option Nat} {ps : List MemPlace} (h : Rp v = some (dF o, ps)) : v = vF o := by
  unfold Rp at h
  split at h
  · cases o with
    | none => rfl
    | some b => simp [dF] at h
  · cases o with
    | none => simp [dF] at h
    | some b =>
      simp only [dF, Option.some.injEq, Prod.mk.injEq, DataW.lit.injEq, Lit.int.injEq, true_and] at h
      have : _ = b := Int.ofNat.inj h.1
      subst this
      rfl
  · cases h

/-- the table: n keys, each with its seat -/
def MapB (w : World) (mb n : Nat) (F : Nat → Option Nat) : Prop :=
  ∃ D, w.ownsMap Tryd.prog 27 Rp mb n D ∧ Maps.size D = n ∧ ∀ k, Ky k → D.atKey (kl k) .nil = dF (F k) ∧ Maps.has D (kl k) = (F k).isSome

variable {w w' : World} {mb n : Nat} {F : Nat → Option Nat} {k : Nat}

theorem MapB.lt (h : MapB w mb n F) : mb < w.heap.size := by obtain ⟨D, h, _⟩ := h; exact h.lt
theorem MapB.isMap (h : MapB w mb n F) : ∃ es clock, w.heap[mb]? = some (.map es clock) := by obtain ⟨D, ⟨es, clock, hb, _⟩, _⟩ := h; exact ⟨es, clock, hb⟩
theorem MapB.later {S : Nat → Prop} (h : MapB w mb n F) (hk : Keeps S w w') (hn : ¬ S mb) : MapB w' mb n F := by
  have hlt := h.lt
  obtain ⟨D, ⟨es, clock, hb, F', hs, hD⟩, h1⟩ := h
  exact ⟨D, ⟨es, clock, (hk.block mb hlt hn).trans hb, F', hs, hD⟩, h1⟩
theorem MapB.made (w : World) : MapB (w.alloc (.map #[] 0)) w.heap.size 0 (fun _ => none) :=
  ⟨_, World.ownsMap_made w _ _ _, rfl, fun _ _ => ⟨rfl, rfl⟩⟩
theorem zero_ptr (w : World) : (zeroValue 87).run Tryd.prog w = .ok (.pointer none) w := by kernel_rfl
theorem MapB.look (h : MapB w mb n F) (hw : Ky k) : (Instr.lookup 86 (.map (some mb)) (kv k) false).run Tryd.prog w = .ok (vF (F k)) w := by
  obtain ⟨D, h, _, h1⟩ := h
  obtain ⟨v, ps, hrun, hv⟩ := h.lookup keyed_ Tryd.underlying86 (zero_ptr w) (zd := .nil) (zp := []) rfl (keyOf_kv hw)
  rw [(h1 k hw).1] at hv
  rw [hrun, rp_inv hv]
theorem MapB.len (h : MapB w mb n F) (ty : TypeId) : (Builtin.len_ #[86] ty #[.map (some mb)]).run Tryd.prog w = .ok (.int .i64 n) w := by
  obtain ⟨D, h, h2, _⟩ := h
  rw [h.len Tryd.underlying86 ty, h2]
theorem keeps_of_grown {b : Nat} (hg : w.grownBy w' (some b)) : Keeps (fun k => k = b) w w' := ⟨hg.os, hg.tape, hg.output, hg.size, fun k hk hn => hg.block k hk (fun e => hn (by injection e))⟩
theorem MapB.store (h : MapB w mb n F) (hn : n < maxLen) (hw : Ky k) (h0 : F k = none) (b : Nat) : ∃ w', (Instr.mapUpdate 86 (.map (some mb)) (kv k) (ptr b)).run Tryd.prog w = .ok () w' ∧ MapB w' mb (n + 1) (setK F k (some b)) ∧ Keeps (fun x => x = mb) w w' := by
  obtain ⟨D, h, h2, h1⟩ := h
  obtain ⟨w', hrun, ho, hg⟩ := h.update keyed_ Tryd.underlying86 hn (keyOf_kv hw) (val := ptr b) (d := .lit (.int .i64 b)) (ps := []) rfl
  refine ⟨w', hrun, ⟨_, ho, ?_, fun k' hw' => ?_⟩, keeps_of_grown hg⟩
  · rw [Maps.size_put (h.tidy keyed_), (h1 k hw).2, h0, h2]; rfl
  unfold setK
  split
  · rename_i e
    subst e
    exact ⟨atKey_put_same h.isMap (keyed_.key (keyOf_kv hw)) _ _, Maps.has_put_same h.isMap (keyed_.key (keyOf_kv hw)) _⟩
  · rename_i e
    rw [atKey_put_other (fun x => e (kl_inj hw' hw x)), Maps.has_put_other (fun x => e (kl_inj hw' hw x))]
    exact h1 k' hw'
theorem MapB.drop {b : Nat} (h : MapB w mb n F) (hw : Ky k) (h0 : F k = some b) : ∃ w', (∀ ty, (Builtin.delete_ #[86, 27] ty #[.map (some mb), kv k]).run Tryd.prog w = .ok (.tuple #[]) w') ∧ MapB w' mb (n - 1) (setK F k none) ∧ Keeps (fun x => x = mb) w w' := by
  obtain ⟨D, h, h2, h1⟩ := h
  obtain ⟨w', hrun, ho, ht⟩ := h.drop keyed_ Tryd.underlying86 (keyOf_kv hw) 0
  have hsz := Maps.size_del (k := kl k) (h.tidy keyed_)
  rw [(h1 k hw).2, h0, h2] at hsz
  simp only [Option.isSome_some, if_true] at hsz
  refine ⟨w', fun ty => hrun, ⟨D.del (kl k), ?_, by omega, fun k' hw' => ?_⟩, keeps_of_grown ht.grown⟩
  · obtain ⟨es, clock, hb, F', hs, hD⟩ := ho
    have e : Maps.size (D.del (kl k)) = es.size := by rw [hD]; simp [Maps.size, length_sorted]
    exact ⟨es, clock, hb, F', by omega, hD⟩
  unfold setK
  split
  · rename_i e
    subst e
    exact ⟨atKey_del_same _, Maps.has_del_same⟩
  · rename_i e
    rw [atKey_del_other (fun x => e (kl_inj hw' hw x)), Maps.has_del_other (fun x => e (kl_inj hw' hw x))]
    exact h1 k' hw'
end Go.Proofs.YtnohcbdnhpaafaaDoor.Rbuint32

/-
  package robin at keys of type uint32: a Robin in memory; find, Len, Has, New
-/
namespace Go.Proofs.YtnohcbdnhpaafaaDoor.Rbuint32
open Go.RowKit

structure RbI (w : World) (r mb : Nat) (l : List Nat) (kf : Nat → Nat) (pf nf : Nat → Option Nat) : Prop where
  box : Cells w r 89 [.map (some mb), vF l[0]?]
  map : MapB w mb l.length (fk l kf)
  seats : ∀ b ∈ l, Cells w b 97 [kv (kf b), vF (pf b), vF (nf b)]
  nodup : l.Nodup
  keys : ∀ b ∈ l, ∀ c ∈ l, kf b = kf c → b = c
  ky : ∀ b ∈ l, Ky (kf b)
  ring : Rg l pf nf
/-- a Robin by its owner: its box, its table, its seats -/
def RbO (own : Nat → Nat) (i : Nat) (w : World) (r : Nat) (ks : List Nat) : Prop :=
  ∃ mb l kf pf nf, RbI w r mb l kf pf nf ∧ own r = i ∧ own mb = i ∧ (∀ b ∈ l, own b = i) ∧ ks = l.map kf

variable {w w' : World} {own own' : Nat → Nat} {i r mb : Nat} {l : List Nat} {kf : Nat → Nat} {pf nf : Nat → Option Nat} {k : Nat} {ks : List Nat} {I : Nat → Prop}

theorem RbI.later {S : Nat → Prop} (h : RbI w r mb l kf pf nf) (hk : Keeps S w w') (h1 : ¬ S r) (h2 : ¬ S mb) (h3 : ∀ b ∈ l, ¬ S b) : RbI w' r mb l kf pf nf :=
  ⟨h.box.later hk h1, h.map.later hk h2, fun b hb => (h.seats b hb).later hk (h3 b hb), h.nodup, h.keys, h.ky, h.ring⟩
theorem RbO.sn (h : RbO own i w r ks) (s : Sn I own w own' w') (hi : ¬ I i) : RbO own' i w' r ks := by
  obtain ⟨mb, l, kf, pf, nf, h, h1, h2, h3, e⟩ := h
  refine ⟨mb, l, kf, pf, nf, h.later s.keeps (fun x => hi (h1 ▸ x)) (fun x => hi (h2 ▸ x)) (fun b hb x => hi (h3 b hb ▸ x)), (s.agree _ h.box.lt).trans h1, (s.agree _ h.map.lt).trans h2, fun b hb => (s.agree _ (h.seats b hb).lt).trans (h3 b hb), e⟩
theorem RbO.quiet (h : RbO own i w r ks) (k : Keeps Nowhere w w') : RbO own i w' r ks := h.sn (I := fun _ => False) (Sn.same k) (fun x => x)
theorem fk_mem (k : Nat) : (fk l kf k).isSome = inT (l.map kf) k := by
  cases e : fk l kf k with
  | none => exact (inT_false (fk_none e)).symm
  | some b => obtain ⟨hb, e'⟩ := fk_some e; exact (inT_true (List.mem_map.2 ⟨b, hb, e'⟩)).symm

/-- the deferred closure, where nothing has panicked -/
theorem catch_idle (w : World) : CallsD Tryd.prog 68 #[] .returning w fun e u' w' => e = .returned (.tuple #[]) ∧ u' = .returning ∧ w' = w := by
  refine callsD_of_wpS Tryd.func68 rfl fun c₀ cs hu => ?_
  apply wpS_region
  cases c₀
  simp_all [wpOpsS, go_sem, recoverD, Tryd.ntmps68, bodyPostS, results, Tryd.results68]
theorem find_ (h : RbI w r mb l kf pf nf) (hk : Ky k) :
    Calls Tryd.prog 51 #[ptr r, kv k] w fun e w' => e = .returned (.tuple #[vF (fk l kf k), .bool true]) ∧ w' = w := by
  have c0 : w.cell? ⟨r, 0, none⟩ = some (.map (some mb)) := h.box.cell 0
  have hl := h.map.look hk
  go_enter_defers Tryd.func51, Tryd.ntmps51
  go_wp2
  refine leaves_cons (f := 68) (args := #[]) (by simp) (by simp [go_sem]) ?_
  refine (catch_idle _).mono ?_
  rintro e u' w'' ⟨rfl, rfl, rfl⟩
  simp [Leaves, settle, results, Tryd.results51, go_sem]
theorem find_nil (k : Nat) (w : World) : Calls Tryd.prog 51 #[.pointer none, kv k] w fun e w' => e = .returned (.tuple #[.pointer none, .bool false]) ∧ w' = w := by
  go_enter_defers Tryd.func51, Tryd.ntmps51
  go_wp2
  simp [bodyPostD, Leaves, results, Tryd.results51, go_sem]
theorem len_ (h : RbI w r mb l kf pf nf) : Calls Tryd.prog 34 #[ptr r] w fun e w' => e = .returned (.int .i64 l.length) ∧ w' = w := by
  have c0 : w.cell? ⟨r, 0, none⟩ = some (.map (some mb)) := h.box.cell 0
  have hl := h.map.len 3
  go_enter Tryd.func34, Tryd.ntmps34
  go_wp2
  go_ret
  exact ⟨rfl, rfl⟩
theorem len_nil (w : World) : Calls Tryd.prog 34 #[.pointer none] w fun e w' => e = .returned (.int .i64 0) ∧ w' = w := by
  go_enter Tryd.func34, Tryd.ntmps34
  go_wp2
  go_ret
  exact ⟨rfl, rfl⟩
theorem new_ (w : World) : Calls Tryd.prog 26 #[] w fun e w' => e = .returned (ptr (w.heap.size + 1)) ∧ w' = (w.alloc (.map #[] 0)).alloc (.cells #[.map (some w.heap.size), .pointer none] 89) := by
  have hm : (Instr.makeMap 86 none).run Tryd.prog w = .ok (.map (some w.heap.size)) (w.alloc (.map #[] 0)) := by kernel_rfl
  go_enter Tryd.func26, Tryd.ntmps26
  go_wp2
  go_ret
  exact ⟨rfl, rfl⟩
theorem new_at (w : World) : RbI ((w.alloc (.map #[] 0)).alloc (.cells #[.map (some w.heap.size), .pointer none] 89)) (w.heap.size + 1) w.heap.size [] (fun _ => 0) (fun _ => none) (fun _ => none) := by
  refine ⟨?_, ?_, fun _ h => by simp at h, List.nodup_nil, fun _ h => by simp at h, fun _ h => by simp at h, Rg.nil⟩
  · have h := Cells.new (w.alloc (.map #[] 0)) 89 [.map (some w.heap.size), .pointer none]
    rw [World.size_alloc] at h
    exact h
  · exact (MapB.made w).later (S := Nowhere) ((Keeps.refl _ _).alloc _) (fun x => x)
theorem newO (own : Nat → Nat) (i : Nat) (w : World) : Calls Tryd.prog 26 #[] w fun e w' => ∃ r, e = .returned (ptr r) ∧ Aside (Keeps Nowhere w w' ∧ RbO (give own w.heap.size i) i w' r []) := by
  refine (new_ w).mono ?_
  rintro e w' ⟨rfl, rfl⟩
  exact ⟨_, rfl, ⟨((Keeps.refl _ _).alloc _).alloc _, _, _, _, _, _, new_at w, give_new (by omega), give_new (by omega), fun _ h => by simp at h, rfl⟩⟩
end Go.Proofs.YtnohcbdnhpaafaaDoor.Rbuint32

/-
  package robin at keys of type uint32: join, Add, leave, Remove
-/
namespace Go.Proofs.YtnohcbdnhpaafaaDoor.Rbuint32
open Go.RowKit

def Sts (w : World) (l : List Nat) (kf : Nat → Nat) (pf nf : Nat → Option Nat) : Prop := ∀ b ∈ l, Cells w b 97 [kv (kf b), vF (pf b), vF (nf b)]

variable {w w' : World} {own own' : Nat → Nat} {i r mb s x z b p q : Nat} {l : List Nat} {kf : Nat → Nat} {pf nf : Nat → Option Nat} {k : Nat} {ks : List Nat} {o o' : Option Nat} {n : Nat} {F : Nat → Option Nat} {e : TypeId} {xs : List Value} {fv u0 u2 u3 u4 u5 : Value}

theorem Sts.setN (h : Sts w l kf pf nf) : Sts (w.setCell ⟨b, 2, none⟩ (vF o)) l kf pf (upd nf b o) := by
  intro c hc
  by_cases e : c = b
  · subst e
    rw [upd_same]
    exact (h c hc).setCell 2 (vF o)
  · rw [upd_other _ _ e]
    exact (h c hc).setOther _ _ e
theorem Sts.setP (h : Sts w l kf pf nf) : Sts (w.setCell ⟨b, 1, none⟩ (vF o)) l kf (upd pf b o) nf := by
  intro c hc
  by_cases e : c = b
  · subst e
    rw [upd_same]
    exact (h c hc).setCell 1 (vF o)
  · rw [upd_other _ _ e]
    exact (h c hc).setOther _ _ e
theorem Sts.add (h : Sts w l kf pf nf) (hs : s ∉ l) (hc : Cells w s 97 [kv k, .pointer none, .pointer none]) : Sts w (l ++ [s]) (upd kf s k) (upd pf s none) (upd nf s none) := by
  intro c hm
  by_cases e : c = s
  · subst e
    rw [upd_same, upd_same, upd_same]
    exact hc
  · rw [upd_other _ _ e, upd_other _ _ e, upd_other _ _ e]
    rcases List.mem_append.1 hm with hm | hm
    · exact h c hm
    · exact absurd (List.mem_singleton.1 hm) e
theorem upd_upd {α : Type} (f : Nat → α) (b : Nat) (u v : α) : upd (upd f b u) b v = upd f b v := by
  funext c
  unfold upd
  split <;> rfl
theorem ne_box (h1 : Cells w r 89 [.map (some mb), fv]) (h2 : Cells w b 97 [kv k, vF o, vF o']) : r ≠ b := by
  rintro rfl
  have := h1.symm.trans h2
  simp at this

theorem join_none (hb : Cells w r 89 [.map (some mb), .pointer none]) (hc : Cells w s 97 [kv k, .pointer none, .pointer none]) (hne : r ≠ s) :
    Calls Tryd.prog 52 #[ptr r, ptr s] w fun e w' => e = .returned (.tuple #[]) ∧ w' = ((w.setCell ⟨s, 1, none⟩ (ptr s)).setCell ⟨s, 2, none⟩ (ptr s)).setCell ⟨r, 1, none⟩ (ptr s) := by
  have c1 : w.cell? ⟨r, 1, none⟩ = some (.pointer none) := hb.cell 1
  have c2 : w.cell? ⟨s, 1, none⟩ = some (.pointer none) := hc.cell 1
  have c3 : w.cell? ⟨s, 2, none⟩ = some (.pointer none) := hc.cell 2
  have f1 : ∀ j, w.frozen? ⟨r, j, none⟩ = false := hb.frozen
  have f2 : ∀ j, w.frozen? ⟨s, j, none⟩ = false := hc.frozen
  go_enter Tryd.func52, Tryd.ntmps52
  go_wp2
  refine bodyPost_ret (results_none rfl _ _ _) rfl ?_
  exact ⟨rfl, rfl⟩
theorem join_some (hb : Cells w r 89 [.map (some mb), ptr x]) (hc : Cells w s 97 [kv k, .pointer none, .pointer none]) (hx : Cells w x 97 [u0, ptr z, u2]) (hz : Cells w z 97 [u3, u4, u5]) (hrs : r ≠ s) (hrz : r ≠ z) (hsx : s ≠ x) (hsz : s ≠ z) :
    Calls Tryd.prog 52 #[ptr r, ptr s] w fun e w' => e = .returned (.tuple #[]) ∧ w' = (((w.setCell ⟨s, 1, none⟩ (ptr z)).setCell ⟨s, 2, none⟩ (ptr x)).setCell ⟨z, 2, none⟩ (ptr s)).setCell ⟨x, 1, none⟩ (ptr s) := by
  have c1 : w.cell? ⟨r, 1, none⟩ = some (ptr x) := hb.cell 1
  have c2 : w.cell? ⟨s, 1, none⟩ = some (.pointer none) := hc.cell 1
  have c3 : w.cell? ⟨s, 2, none⟩ = some (.pointer none) := hc.cell 2
  have c4 : w.cell? ⟨x, 1, none⟩ = some (ptr z) := hx.cell 1
  have c5 : w.cell? ⟨z, 2, none⟩ = some u5 := hz.cell 2
  have f1 : ∀ j, w.frozen? ⟨x, j, none⟩ = false := hx.frozen
  have f2 : ∀ j, w.frozen? ⟨s, j, none⟩ = false := hc.frozen
  have f3 : ∀ j, w.frozen? ⟨z, j, none⟩ = false := hz.frozen
  go_enter Tryd.func52, Tryd.ntmps52
  go_wp2
  go_end0
  exact ⟨rfl, rfl⟩
/-- what join leaves -/
theorem join_ (hb : Cells w r 89 [.map (some mb), vF l[0]?]) (hst : Sts w l kf pf nf) (hn : l.Nodup) (hr : Rg l pf nf) (hs : s ∉ l) (hc : Cells w s 97 [kv k, .pointer none, .pointer none]) :
    Calls Tryd.prog 52 #[ptr r, ptr s] w fun e w' => e = .returned (.tuple #[]) ∧ ∃ pf' nf', Cells w' r 89 [.map (some mb), vF (l ++ [s])[0]?] ∧ Sts w' (l ++ [s]) (upd kf s k) pf' nf' ∧ Rg (l ++ [s]) pf' nf' ∧ Keeps (fun c => c = r ∨ c ∈ l ++ [s]) w w' := by
  have hrs : r ≠ s := ne_box (o := none) (o' := none) hb hc
  have ha := hst.add hs hc
  cases l with
  | nil =>
    refine (join_none hb hc hrs).mono ?_
    rintro e w' ⟨rfl, rfl⟩
    refine ⟨rfl, _, _, ?_, ?_, Rg.one (pf := upd pf s none) (nf := upd nf s none), ?_⟩
    · exact ((hb.setOther ⟨s, 1, none⟩ (ptr s) hrs).setOther ⟨s, 2, none⟩ (ptr s) hrs).setCell 1 (ptr s)
    · have h := (ha.setP (b := s) (o := some s)).setN (b := s) (o := some s)
      exact fun c hc => (h c hc).setOther ⟨r, 1, none⟩ (ptr s) (by rw [List.nil_append, List.mem_singleton] at hc; rw [hc]; exact fun e => hrs e.symm)
    · exact (((Keeps.refl _ _).setCell _ _ (fun _ => .inr (by simp))).setCell _ _ (fun _ => .inr (by simp))).setCell _ _ (fun _ => .inl rfl)
  | cons x t =>
    obtain ⟨z, hz⟩ : ∃ z, (x :: t)[(x :: t).length - 1]? = some z := ⟨_, List.getElem?_eq_getElem (by simp)⟩
    have hxm : x ∈ x :: t := List.mem_cons_self
    have hzm := List.mem_of_getElem? hz
    have hx := hst x hxm
    have hzc := hst z hzm
    have ex : pf x = some z := (hr 0 x rfl).2.trans hz
    rw [ex] at hx
    have hrx : r ≠ x := ne_box hb hx
    have hrz : r ≠ z := ne_box hb hzc
    have sx : s ≠ x := fun e => hs (e ▸ hxm)
    have sz : s ≠ z := fun e => hs (e ▸ hzm)
    refine (join_some hb hc hx hzc hrs hrz sx sz).mono ?_
    rintro e w' ⟨rfl, rfl⟩
    have h := (((ha.setP (b := s) (o := some z)).setN (b := s) (o := some x)).setN (b := z) (o := some s)).setP (b := x) (o := some s)
    rw [upd_upd, upd_upd] at h
    refine ⟨rfl, _, _, ?_, h, Rg.join hn hs rfl hz hr, ?_⟩
    · exact (((hb.setOther ⟨s, 1, none⟩ (ptr z) hrs).setOther ⟨s, 2, none⟩ (ptr x) hrs).setOther ⟨z, 2, none⟩ (ptr s) hrz).setOther ⟨x, 1, none⟩ (ptr s) hrx
    · have m1 : ∀ c ∈ x :: t, c ∈ x :: t ++ [s] := fun c hc => List.mem_append_left _ hc
      exact ((((Keeps.refl _ _).setCell _ _ (fun _ => .inr (by simp))).setCell _ _ (fun _ => .inr (by simp))).setCell _ _ (fun _ => .inr (m1 _ hzm))).setCell _ _ (fun _ => .inr (m1 _ hxm))

theorem not_fresh (h : RbI w r mb l kf pf nf) {g : Nat} (hg : w.heap.size ≤ g) : g ∉ l := fun hm => by have := (h.seats g hm).lt; omega
theorem map_ne (h : MapB w mb n F) (hc : Cells w b e xs) : mb ≠ b := by
  rintro rfl
  obtain ⟨es, c, h1⟩ := h.isMap
  rw [hc] at h1
  cases h1
theorem add_old (h : RbI w r mb l kf pf nf) (hk : Ky k) (hm : fk l kf k = some b) : Calls Tryd.prog 29 #[ptr r, kv k] w fun e w' => e = .returned (.bool false) ∧ w' = w := by
  have hf := find_ h hk
  rw [hm] at hf
  simp only [vF] at hf
  go_enter Tryd.func29, Tryd.ntmps29
  go_upto_region 2 with (first | (go_at_call 51; refine hf.mono ?_; rintro e w' ⟨rfl, rfl⟩) | fail)
  go_wp2
  go_ret
  exact ⟨rfl, rfl⟩
theorem add_nil (k : Nat) (w : World) : Calls Tryd.prog 29 #[.pointer none, kv k] w fun e w' => e = .returned (.bool false) ∧ w' = w := by
  have hf := find_nil k w
  go_enter Tryd.func29, Tryd.ntmps29
  go_upto_region 2 with (first | (go_at_call 51; refine hf.mono ?_; rintro e w' ⟨rfl, rfl⟩) | fail)
  go_wp2
  go_ret
  exact ⟨rfl, rfl⟩
theorem add_new (h : RbI w r mb l kf pf nf) (hk : Ky k) (hm : fk l kf k = none) (hl : l.length < maxLen) : Calls Tryd.prog 29 #[ptr r, kv k] w fun e w' => e = .returned (.bool true) ∧ ∃ s pf' nf', w.heap.size ≤ s ∧ Aside (RbI w' r mb (l ++ [s]) (upd kf s k) pf' nf') ∧ Aside (Keeps (fun c => c = r ∨ c = mb ∨ c ∈ l) w w') := by
  have hf := find_ h hk
  rw [hm] at hf
  simp only [vF] at hf
  obtain ⟨s, hs⟩ : ∃ s, s = w.heap.size := ⟨_, rfl⟩
  obtain ⟨w1, hw1⟩ : ∃ w1, w1 = w.alloc (.cells #[kv k, .pointer none, .pointer none] 97) := ⟨_, rfl⟩
  have k1 : Keeps Nowhere w w1 := by rw [hw1]; exact (Keeps.refl _ _).alloc _
  have hc : Cells w1 s 97 [kv k, .pointer none, .pointer none] := by rw [hw1, hs]; exact Cells.new w 97 _
  have h1 := h.later k1 (fun x => x) (fun x => x) (fun _ _ x => x)
  have c0 : w1.cell? ⟨r, 0, none⟩ = some (.map (some mb)) := h1.box.cell 0
  obtain ⟨w2, hst, hm2, k2⟩ := h1.map.store hl hk hm s
  have nr : r ≠ mb := fun e => map_ne h1.map h1.box e.symm
  have nm : ∀ b, ∀ xs, Cells w1 b 97 xs → b ≠ mb := fun b xs hb e => map_ne h1.map hb e.symm
  have hsl : s ∉ l := not_fresh h (by omega)
  have j := join_ (h1.box.later k2 nr) (fun b hb => (h1.seats b hb).later k2 (nm b _ (h1.seats b hb))) h.nodup h.ring hsl (hc.later k2 (nm s _ hc))
  have e1 : setK (fk l kf) k (some s) = fk (l ++ [s]) (upd kf s k) := (fk_snoc hsl hm).symm
  rw [e1] at hm2
  have H := Aside.mk (And.intro h (And.intro hm2 (And.intro k1 k2)))
  have N := Aside.mk (And.intro nr (And.intro hsl (nm s _ hc)))
  have NB := Aside.mk (fun b hb => nm b _ (h1.seats b hb))
  have HC := Aside.mk hc
  clear h hm2 k1 k2 nm nr hsl h1 hc
  go_enter Tryd.func29, Tryd.ntmps29
  go_upto_region 5 with (first | (go_at_call 51; refine hf.mono ?_; rintro e w' ⟨rfl, rfl⟩) | fail)
  rw [← hs, ← hw1]
  have HS := Aside.mk hs
  clear hf hw1 hs
  go_upto_region 7 with (first | (go_at_call 52; refine j.mono ?_; clear j; rintro e w3 ⟨rfl, pf', nf', hb, hst, hr, hk⟩; have J := Aside.mk (And.intro hb (And.intro hst (And.intro hr hk))); clear hb hst hr hk) | fail)
  go_wp2
  go_ret
  obtain ⟨h, hm2, k1, k2⟩ := H.it
  have hs := HS.it
  obtain ⟨nr, hsl, ns⟩ := N.it
  obtain ⟨hb, hst, hr, k3⟩ := J.it
  have nw : ∀ c ∈ l ++ [s], c ≠ mb := by
    intro c hc
    rcases List.mem_append.1 hc with hc | hc
    · exact NB.it c hc
    · rw [List.mem_singleton.1 hc]; exact ns
  refine ⟨rfl, s, pf', nf', by omega, ⟨hb, ?_, hst, ?_, ?_, ?_, hr⟩, ⟨?_⟩⟩
  · rw [List.length_append]
    refine hm2.later k3 ?_
    rintro (e | e)
    · exact nr e.symm
    · exact nw mb e rfl
  · exact List.nodup_append.2 ⟨h.nodup, by simp, fun a ha b hb => by rw [List.mem_singleton.1 hb]; exact fun e => hsl (e ▸ ha)⟩
  · intro b hb c hc e
    have key : ∀ b ∈ l, kf b ≠ k := fun b hb e => fk_none hm (List.mem_map.2 ⟨b, hb, e⟩)
    rcases List.mem_append.1 hb with hb | hb <;> rcases List.mem_append.1 hc with hc | hc
    · rw [upd_other (b := s) _ _ (fun e => hsl (e ▸ hb)), upd_other (b := s) _ _ (fun e => hsl (e ▸ hc))] at e
      exact h.keys b hb c hc e
    · rw [List.mem_singleton.1 hc, upd_same, upd_other (b := s) _ _ (fun e => hsl (e ▸ hb))] at e
      exact absurd e (key b hb)
    · rw [List.mem_singleton.1 hb, upd_same, upd_other (b := s) _ _ (fun e => hsl (e ▸ hc))] at e
      exact absurd e.symm (key c hc)
    · rw [List.mem_singleton.1 hb, List.mem_singleton.1 hc]
  · intro b hb
    rcases List.mem_append.1 hb with hb | hb
    · rw [upd_other (b := s) _ _ (fun e => hsl (e ▸ hb))]; exact h.ky b hb
    · rw [List.mem_singleton.1 hb, upd_same]; exact hk
  · refine ((k1.any.next k2 (fun c e _ => .inr (.inl e))).next k3 ?_)
    rintro c (e | e) hlt
    · exact .inl e
    · rcases List.mem_append.1 e with e | e
      · exact .inr (.inr e)
      · rw [List.mem_singleton.1 e] at hlt; omega
end Go.Proofs.YtnohcbdnhpaafaaDoor.Rbuint32

/-
  package robin at keys of type uint32: leave, Remove
-/
namespace Go.Proofs.YtnohcbdnhpaafaaDoor.Rbuint32
open Go.RowKit

variable {w w' : World} {own own' : Nat → Nat} {i r mb s x z b p q j : Nat} {l : List Nat} {kf : Nat → Nat} {pf nf : Nat → Option Nat} {k : Nat} {ks : List Nat} {F : Nat → Option Nat}

theorem info_seat : ∃ j, Tryd.prog.info? 97 = some j ∧ j.size ≠ 0 := by
  have h : ((Tryd.prog.info? 97).map fun j => decide (j.size ≠ 0)) = some true := by kernel_rfl
  cases e : Tryd.prog.info? 97 with
  | none => rw [e] at h; cases h
  | some j => rw [e] at h; exact ⟨j, rfl, of_decide_eq_true (Option.some.inj h)⟩
theorem seat_same (w : World) (b : Nat) : (binOp BinOp.eql 87 (ptr b) (ptr b)).run Tryd.prog w = .ok (.bool true) w := by
  obtain ⟨j, h, _⟩ := info_seat
  exact run_eql_ptr_same w _ Tryd.underlying87 h
theorem seat_other {xs ys : List Value} (hne : x ≠ b) (h1 : Cells w x 97 xs) (h2 : Cells w b 97 ys) : (binOp BinOp.eql 87 (ptr x) (ptr b)).run Tryd.prog w = .ok (.bool false) w := by
  obtain ⟨j, h, hs⟩ := info_seat
  exact run_eql_ptr_other w Tryd.underlying87 h hs (fun e => by cases e; exact hne rfl) h1 h2
set_option maxHeartbeats 1000000 in
set_option maxRecDepth 4000 in
theorem leave_ (hb : Cells w r 89 [.map (some mb), vF l[0]?]) (hst : Sts w l kf pf nf) (hn : l.Nodup) (hr : Rg l pf nf) (hj : l[j]? = some b) (hm : MapB w mb (l.length - 1) F) :
    Calls Tryd.prog 60 #[ptr r, ptr b] w fun e w' => e = .returned (.tuple #[]) ∧ ∃ pf' nf', Cells w' r 89 [.map (some mb), vF (l.eraseIdx j)[0]?] ∧ Sts w' (l.eraseIdx j) kf pf' nf' ∧ Rg (l.eraseIdx j) pf' nf' ∧ Keeps (fun c => c = r ∨ c ∈ l) w w' := by
  have bm := List.mem_of_getElem? hj
  obtain ⟨p, ep, pm⟩ := hr.ahead bm
  obtain ⟨q, eq, qm⟩ := hr.behind bm
  have hbc := hst b bm
  rw [ep, eq] at hbc
  have hpc := hst p pm
  have hqc := hst q qm
  have c1 : w.cell? ⟨b, 1, none⟩ = some (ptr p) := hbc.cell 1
  have c2 : w.cell? ⟨b, 2, none⟩ = some (ptr q) := hbc.cell 2
  have c3 : w.cell? ⟨p, 2, none⟩ = some (vF (nf p)) := hpc.cell 2
  have c4 : w.cell? ⟨q, 1, none⟩ = some (vF (pf q)) := hqc.cell 1
  have f1 : ∀ j, w.frozen? ⟨p, j, none⟩ = false := hpc.frozen
  have f2 : ∀ j, w.frozen? ⟨q, j, none⟩ = false := hqc.frozen
  have H := Aside.mk (And.intro hb (And.intro hst (And.intro hm (And.intro hbc (And.intro hpc hqc)))))
  clear hb hst hbc hpc hqc hm
  go_enter Tryd.func60, Tryd.ntmps60
  apply wp_seq
  go_region
  obtain ⟨hb, hst, hm, hbc, hpc, hqc⟩ := H.it
  have np : r ≠ p := ne_box hb hpc
  have nq : r ≠ q := ne_box hb hqc
  have mp : mb ≠ p := map_ne hm hpc
  have mq : mb ≠ q := map_ne hm hqc
  have mr : mb ≠ r := map_ne hm hb
  generalize hW : World.drew ((w.setCell ⟨p, 2, none⟩ (.pointer (some ⟨q, 0, none⟩))).setCell ⟨q, 1, none⟩ (.pointer (some ⟨p, 0, none⟩))) = w2
  have K2 : Keeps (fun c => c ∈ l) w w2 := by
    rw [← hW]
    exact (((Keeps.refl _ _).setCell _ _ (fun _ => pm)).setCell _ _ (fun _ => qm)).drew
  have S2 : Sts w2 l kf (upd pf q (some p)) (upd nf p (some q)) := by
    rw [← hW]
    exact fun c hc => (((hst.setN (b := p) (o := some q)).setP (b := q) (o := some p)) c hc).drew
  have nl : r ∉ l := fun hm => ne_box hb (hst r hm) rfl
  have ml : mb ∉ l := fun h => map_ne hm (hst mb h) rfl
  have B2 : Cells w2 r 89 [.map (some mb), vF l[0]?] := hb.later K2 nl
  have M2 : MapB w2 mb (l.length - 1) F := hm.later K2 ml
  have R2 := hr.erase hn hj ep eq
  have hb2 := S2 b bm
  have enb : upd nf p (some q) b = some q := by
    unfold upd
    split
    · rfl
    · exact eq
  rw [enb] at hb2
  have T2 : Sts w2 (l.eraseIdx j) kf (upd pf q (some p)) (upd nf p (some q)) := fun c hc => S2 c (List.mem_of_mem_eraseIdx hc)
  obtain ⟨x, hx⟩ : ∃ x, l[0]? = some x := ⟨_, List.getElem?_eq_getElem (by have := lt_of_some hj; omega)⟩
  rw [hx] at B2
  have E1 : ∀ c, (binOp BinOp.eql 87 (ptr c) (ptr c)).run Tryd.prog w2 = .ok (.bool true) w2 := seat_same w2
  have E2 : x ≠ b → (binOp BinOp.eql 87 (ptr x) (ptr b)).run Tryd.prog w2 = .ok (.bool false) w2 := fun e => seat_other e (S2 x (List.mem_of_getElem? hx)) (S2 b bm)
  have d0 : w2.cell? ⟨r, 0, none⟩ = some (.map (some mb)) := B2.cell 0
  have d1 : w2.cell? ⟨r, 1, none⟩ = some (ptr x) := B2.cell 1
  have d2 : w2.cell? ⟨b, 2, none⟩ = some (ptr q) := hb2.cell 2
  have f3 : ∀ j, w2.frozen? ⟨r, j, none⟩ = false := B2.frozen
  have K3 : Keeps (fun c => c = r) w2 (w2.setCell ⟨r, 1, none⟩ (ptr q)) := (Keeps.refl _ _).setCell _ _ (fun _ => rfl)
  have B3 : Cells (w2.setCell ⟨r, 1, none⟩ (ptr q)) r 89 [.map (some mb), ptr q] := B2.setCell 1 (ptr q)
  have L2 := M2.len 3
  have L3 := (M2.later K3 mr).len 3
  have G := Aside.mk (And.intro K2 (And.intro T2 (And.intro R2 (And.intro B2 (And.intro B3 (And.intro K3 nl))))))
  have hlt := lt_of_some hj
  have hh := erase_head (nf := nf) (pf := pf) hj hn eq hr
  clear K2 S2 B2 M2 R2 T2 B3 K3 nl ml mr mp mq np nq hb hst hm hbc hpc hqc hb2 c1 c2 c3 c4 f1 f2 hW enb
  simp only [Exit.then]
  by_cases h1 : l.length = 1
  · have e0 : ((l.length - 1 : Nat) : Int) = 0 := by omega
    rw [e0] at L2 L3
    obtain rfl : j = 0 := by omega
    obtain rfl : b = x := by rw [hj] at hx; exact Option.some.inj hx
    clear E2
    go_wp2
    go_end0
    obtain ⟨K2, T2, R2, B2, B3, K3, nl⟩ := G.it
    have el : l.eraseIdx 0 = [] := List.eq_nil_of_length_eq_zero (by rw [List.length_eraseIdx_of_lt (by omega)]; omega)
    refine ⟨rfl, _, _, ?_, ?_, R2, ?_⟩
    · rw [el]; exact B3.setCell 1 (.pointer none)
    · rw [el]; exact fun _ h => by simp at h
    · exact ((K2.mono (fun _ h _ => .inr h)).setCell ⟨r, 1, none⟩ (ptr q) (fun _ => .inl rfl)).setCell ⟨r, 1, none⟩ (.pointer none) (fun _ => .inl rfl)
  · have e0 : ¬ ((l.length - 1 : Nat) : Int) = 0 := by omega
    have hh := hh h1
    by_cases hxb : x = b
    · subst hxb
      clear E2
      rw [hx, if_pos rfl] at hh
      go_wp2
      go_end0
      obtain ⟨K2, T2, R2, B2, B3, K3, nl⟩ := G.it
      refine ⟨rfl, _, _, ?_, fun c hc => (T2 c hc).setOther _ _ (fun e => nl (by rw [← (show c = r from e)]; exact List.mem_of_mem_eraseIdx hc)), R2, ?_⟩
      · rw [hh]; exact B3
      · exact (K2.mono (fun _ h _ => .inr h)).setCell ⟨r, 1, none⟩ (ptr q) (fun _ => .inl rfl)
    · rw [hx, if_neg (fun e => hxb (Option.some.inj e))] at hh
      have E2 := E2 hxb
      go_wp2
      go_end0
      obtain ⟨K2, T2, R2, B2, B3, K3, nl⟩ := G.it
      refine ⟨rfl, _, _, ?_, T2, R2, K2.mono (fun _ h _ => .inr h)⟩
      rw [hh]; exact B2
theorem remove_none (h : RbI w r mb l kf pf nf) (hk : Ky k) (hm : fk l kf k = none) : Calls Tryd.prog 41 #[ptr r, kv k] w fun e w' => e = .returned (.bool false) ∧ w' = w := by
  have hf := find_ h hk
  rw [hm] at hf
  simp only [vF] at hf
  go_enter Tryd.func41, Tryd.ntmps41
  go_upto_region 2 with (first | (go_at_call 51; refine hf.mono ?_; rintro e w' ⟨rfl, rfl⟩) | fail)
  go_wp2
  go_ret
  exact ⟨rfl, rfl⟩
theorem remove_nil (k : Nat) (w : World) : Calls Tryd.prog 41 #[.pointer none, kv k] w fun e w' => e = .returned (.bool false) ∧ w' = w := by
  have hf := find_nil k w
  go_enter Tryd.func41, Tryd.ntmps41
  go_upto_region 2 with (first | (go_at_call 51; refine hf.mono ?_; rintro e w' ⟨rfl, rfl⟩) | fail)
  go_wp2
  go_ret
  exact ⟨rfl, rfl⟩
theorem remove_some (h : RbI w r mb l kf pf nf) (hk : Ky k) (hm : fk l kf k = some b) (hj : l[j]? = some b) : Calls Tryd.prog 41 #[ptr r, kv k] w fun e w' => e = .returned (.bool true) ∧ ∃ pf' nf', Aside (RbI w' r mb (l.eraseIdx j) kf pf' nf') ∧ Aside (Keeps (fun c => c = r ∨ c = mb ∨ c ∈ l) w w') := by
  have hf := find_ h hk
  obtain ⟨bm, eb⟩ := fk_some hm
  have hlt := lt_of_some hj
  rw [hm] at hf
  simp only [vF] at hf
  have c0 : w.cell? ⟨r, 0, none⟩ = some (.map (some mb)) := h.box.cell 0
  obtain ⟨w2, hdel, hm2, k2⟩ := h.map.drop hk hm
  have nr : r ≠ mb := fun e => map_ne h.map h.box e.symm
  have nl : ∀ c ∈ l, c ≠ mb := fun c hc e => map_ne h.map (h.seats c hc) e.symm
  have j1 := leave_ (h.box.later k2 nr) (fun c hc => (h.seats c hc).later k2 (nl c hc)) h.nodup h.ring hj hm2
  rw [← fk_erase h.keys h.nodup hj eb] at hm2
  have H := Aside.mk (And.intro h (And.intro hm2 (And.intro k2 (And.intro nr nl))))
  clear h hm2 k2 nr nl
  go_enter Tryd.func41, Tryd.ntmps41
  go_upto_region 4 with (first | (go_at_call 51; refine hf.mono ?_; rintro e w' ⟨rfl, rfl⟩) | fail)
  clear hf
  go_upto_region 6 with (first | (go_at_call 60; refine j1.mono ?_; clear j1; rintro e w3 ⟨rfl, pf', nf', hb, hst, hr, hk⟩; have J := Aside.mk (And.intro hb (And.intro hst (And.intro hr hk))); clear hb hst hr hk) | fail)
  go_wp2
  go_ret
  obtain ⟨h, hm2, k2, nr, nl⟩ := H.it
  obtain ⟨hb, hst, hr, k3⟩ := J.it
  have sub : ∀ c ∈ l.eraseIdx j, c ∈ l := fun c hc => List.mem_of_mem_eraseIdx hc
  refine ⟨rfl, pf', nf', ⟨hb, ?_, hst, h.nodup.eraseIdx j, fun a ha c hc => h.keys a (sub a ha) c (sub c hc), fun c hc => h.ky c (sub c hc), hr⟩, ⟨?_⟩⟩
  · rw [List.length_eraseIdx_of_lt hlt]
    refine hm2.later k3 ?_
    rintro (e | e)
    · exact nr e.symm
    · exact nl mb e rfl
  · refine (k2.mono (fun c e _ => .inr (.inl e))).next k3 ?_
    rintro c (e | e) _
    · exact .inl e
    · exact .inr (.inr e)
end Go.Proofs.YtnohcbdnhpaafaaDoor.Rbuint32

/-
  package robin at keys of type uint32: Next; the calls by owner
-/
namespace Go.Proofs.YtnohcbdnhpaafaaDoor.Rbuint32
open Go.RowKit

variable {w w' : World} {own own' : Nat → Nat} {i r mb s x z b p q j : Nat} {l t : List Nat} {kf : Nat → Nat} {pf nf : Nat → Option Nat} {k : Nat} {ks : List Nat} {F : Nat → Option Nat}

theorem next_none (h : RbI w r mb [] kf pf nf) : Calls Tryd.prog 57 #[ptr r] w fun e w' => e = .returned (.tuple #[kv 0, .bool false]) ∧ w' = w := by
  have hl := len_ h
  go_enter Tryd.func57, Tryd.ntmps57
  go_upto_region 2 with (first | (go_at_call 34; refine hl.mono ?_; rintro e w' ⟨rfl, rfl⟩) | fail)
  go_wp2
  go_ret2
  exact ⟨rfl, rfl⟩
theorem next_nil (w : World) : Calls Tryd.prog 57 #[.pointer none] w fun e w' => e = .returned (.tuple #[kv 0, .bool false]) ∧ w' = w := by
  have hl := len_nil w
  go_enter Tryd.func57, Tryd.ntmps57
  go_upto_region 2 with (first | (go_at_call 34; refine hl.mono ?_; rintro e w' ⟨rfl, rfl⟩) | fail)
  go_wp2
  go_ret2
  exact ⟨rfl, rfl⟩
theorem next_some (h : RbI w r mb (x :: t) kf pf nf) : Calls Tryd.prog 57 #[ptr r] w fun e w' => e = .returned (.tuple #[kv (kf x), .bool true]) ∧ Aside (RbI w' r mb (t ++ [x]) kf pf nf) ∧ Aside (Keeps (fun c => c = r) w w') := by
  have hl := len_ h
  obtain ⟨q, eq, qm⟩ := h.ring.behind (b := x) List.mem_cons_self
  have hx := h.seats x List.mem_cons_self
  rw [eq] at hx
  have c1 : w.cell? ⟨r, 1, none⟩ = some (ptr x) := h.box.cell 1
  have c2 : w.cell? ⟨x, 0, none⟩ = some (kv (kf x)) := hx.cell 0
  have c3 : w.cell? ⟨x, 2, none⟩ = some (ptr q) := hx.cell 2
  have f1 : ∀ j, w.frozen? ⟨r, j, none⟩ = false := h.box.frozen
  have e0 : ¬ (((x :: t).length : Nat) : Int) = 0 := by rw [List.length_cons]; omega
  have H := Aside.mk h
  clear h hx
  generalize hL : (((x :: t).length : Nat) : Int) = L at hl e0
  have HL := Aside.mk hL
  clear hL
  go_enter Tryd.func57, Tryd.ntmps57
  go_upto_region 4 with (first | (go_at_call 34; refine hl.mono ?_; rintro e w' ⟨rfl, rfl⟩) | fail)
  go_wp2
  go_ret2
  have h := H.it
  have nr : ∀ c ∈ x :: t, c ≠ r := fun c hc e => ne_box h.box (h.seats c hc) e.symm
  have sub : ∀ c, c ∈ t ++ [x] → c ∈ x :: t := fun c hc => by simpa [or_comm] using hc
  have k1 : Keeps (fun c => c = r) w' (w'.setCell ⟨r, 1, none⟩ (ptr q)) := (Keeps.refl _ _).setCell _ _ (fun _ => rfl)
  have hq : vF (t ++ [x])[0]? = ptr q := by
    have e1 := (h.ring 0 x rfl).1
    rw [eq] at e1
    rw [rot_get 0 (by omega)]
    rw [List.length_cons] at e1
    rw [← e1]
    rfl
  refine ⟨rfl, ⟨?_, ?_, fun c hc => (h.seats c (sub c hc)).later k1 (nr c (sub c hc)), ?_, fun a ha c hc => h.keys a (sub a ha) c (sub c hc), fun c hc => h.ky c (sub c hc), h.ring.rot⟩, ⟨k1⟩⟩
  · rw [hq]; exact h.box.setCell 1 (ptr q)
  · have e1 : fk (t ++ [x]) kf = fk (x :: t) kf := by
      funext k'
      cases e : fk (x :: t) kf k' with
      | none =>
        refine fk_out fun hm => fk_none e ?_
        obtain ⟨c, hc, ec⟩ := List.mem_map.1 hm
        exact List.mem_map.2 ⟨c, sub c hc, ec⟩
      | some c =>
        obtain ⟨hc, ec⟩ := fk_some e
        exact fk_eq (fun a ha c hc => h.keys a (sub a ha) c (sub c hc)) (by simpa [or_comm] using hc) ec
    rw [e1, show (t ++ [x]).length = (x :: t).length by simp]
    exact h.map.later k1 (map_ne h.map h.box)
  · have := h.nodup
    rw [List.nodup_cons] at this
    exact List.nodup_append.2 ⟨this.2, by simp, fun a ha b hb => by rw [List.mem_singleton.1 hb]; exact fun e => this.1 (e ▸ ha)⟩
/-- what the calls leave, by owner -/
theorem addO (h : RbO own i w r ks) (hk : Ky k) (hl : ks.length < maxLen) : Calls Tryd.prog 29 #[ptr r, kv k] w fun e w' => e = .returned (.bool (addT ks k)) ∧ Aside (Keeps (fun c => own c = i) w w' ∧ RbO (give own w.heap.size i) i w' r (addL ks k)) := by
  obtain ⟨mb, l, kf, pf, nf, h, h1, h2, h3, rfl⟩ := h
  cases hm : fk l kf k with
  | some b =>
    obtain ⟨hb, eb⟩ := fk_some hm
    have hin : k ∈ l.map kf := List.mem_map.2 ⟨b, hb, eb⟩
    refine (add_old h hk hm).mono ?_
    rintro e w' ⟨rfl, rfl⟩
    rw [addT_false hin, addL_in hin]
    exact ⟨rfl, Keeps.refl _ _, mb, l, kf, pf, nf, h, (give_old h.box.lt).trans h1, (give_old h.map.lt).trans h2, fun b hb => (give_old (h.seats b hb).lt).trans (h3 b hb), rfl⟩
  | none =>
    have hin := fk_none hm
    rw [List.length_map] at hl
    refine (add_new h hk hm hl).mono ?_
    rintro e w' ⟨rfl, s, pf', nf', hs, H, K⟩
    have hsl : s ∉ l := not_fresh h hs
    rw [addT_true hin, addL_new hin]
    refine ⟨rfl, K.it.mono ?_, mb, l ++ [s], upd kf s k, pf', nf', H.it, (give_old h.box.lt).trans h1, (give_old h.map.lt).trans h2, ?_, ?_⟩
    · rintro c (e | e | e) _
      · rw [e]; exact h1
      · rw [e]; exact h2
      · exact h3 c e
    · intro b hb
      rcases List.mem_append.1 hb with hb | hb
      · exact (give_old (h.seats b hb).lt).trans (h3 b hb)
      · rw [List.mem_singleton.1 hb]; exact give_new hs
    · rw [List.map_append, map_upd hsl, List.map_singleton, upd_same]
theorem nextO (h : RbO own i w r ks) : Calls Tryd.prog 57 #[ptr r] w fun e w' => e = .returned (.tuple #[kv (frst 0 ks), .bool (some1 ks)]) ∧ Aside (Keeps (fun c => own c = i) w w' ∧ RbO (give own w.heap.size i) i w' r (rotL ks)) := by
  obtain ⟨mb, l, kf, pf, nf, h, h1, h2, h3, rfl⟩ := h
  have g1 := (give_old (i := i) h.box.lt).trans h1
  have g2 := (give_old (i := i) h.map.lt).trans h2
  have g3 : ∀ b ∈ l, give own w.heap.size i b = i := fun b hb => (give_old (h.seats b hb).lt).trans (h3 b hb)
  cases l with
  | nil =>
    refine (next_none h).mono ?_
    rintro e w' ⟨rfl, rfl⟩
    exact ⟨rfl, Keeps.refl _ _, mb, [], kf, pf, nf, h, g1, g2, g3, rfl⟩
  | cons x t =>
    refine (next_some h).mono ?_
    rintro e w' ⟨rfl, H, K⟩
    refine ⟨rfl, K.it.mono ?_, mb, t ++ [x], kf, pf, nf, H.it, g1, g2, fun b hb => g3 b (by simpa [or_comm] using hb), by simp [rotL]⟩
    rintro c e _
    rw [e]; exact h1
theorem lenO (h : RbO own i w r ks) : Calls Tryd.prog 34 #[ptr r] w fun e w' => e = .returned (.int .i64 ks.length) ∧ w' = w := by
  obtain ⟨mb, l, kf, pf, nf, h, _, _, _, rfl⟩ := h
  rw [List.length_map]
  exact len_ h
end Go.Proofs.YtnohcbdnhpaafaaDoor.Rbuint32

/-
  package robin at keys of type uint32: Next, Clear; the calls by owner
-/
namespace Go.Proofs.YtnohcbdnhpaafaaDoor.Rbuint32
open Go.RowKit

variable {w w' : World} {own own' : Nat → Nat} {i r mb s x z b p q j : Nat} {l t : List Nat} {kf : Nat → Nat} {pf nf : Nat → Option Nat} {k : Nat} {ks : List Nat} {F : Nat → Option Nat}

theorem clear_nil (w : World) : Calls Tryd.prog 45 #[.pointer none] w fun e w' => e = .returned (.int .i64 0) ∧ w' = w := by
  have hl := len_nil w
  go_enter Tryd.func45, Tryd.ntmps45
  go_upto_region 2 with (first | (go_at_call 34; refine hl.mono ?_; rintro e w' ⟨rfl, rfl⟩) | fail)
  go_wp2
  go_ret
  exact ⟨rfl, rfl⟩
theorem clear_none (h : RbI w r mb [] kf pf nf) : Calls Tryd.prog 45 #[ptr r] w fun e w' => e = .returned (.int .i64 0) ∧ w' = w := by
  have hl := len_ h
  go_enter Tryd.func45, Tryd.ntmps45
  go_upto_region 2 with (first | (go_at_call 34; refine hl.mono ?_; rintro e w' ⟨rfl, rfl⟩) | fail)
  go_wp2
  go_ret
  exact ⟨rfl, rfl⟩
theorem clear_some (h : RbI w r mb (x :: t) kf pf nf) : Calls Tryd.prog 45 #[ptr r] w fun e w' => e = .returned (.int .i64 (x :: t).length) ∧ ∃ mb', w.heap.size ≤ mb' ∧ Aside (RbI w' r mb' [] kf (fun _ => none) (fun _ => none)) ∧ Aside (Keeps (fun c => c = r) w w') := by
  have hl := len_ h
  have hn := new_ w
  obtain ⟨w1, hw1⟩ : ∃ w1, w1 = (w.alloc (.map #[] 0)).alloc (.cells #[.map (some w.heap.size), .pointer none] 89) := ⟨_, rfl⟩
  obtain ⟨m, hm⟩ : ∃ m, m = w.heap.size := ⟨_, rfl⟩
  have N1 := new_at w
  rw [← hw1, ← hm] at hn N1
  have k1 : Keeps Nowhere w w1 := by rw [hw1]; exact ((Keeps.refl _ _).alloc _).alloc _
  have hb := h.box.later k1 (fun x => x)
  have hlt := h.box.lt
  have c1 : w1.cell? ⟨r, 0, none⟩ = some (.map (some mb)) := hb.cell 0
  have c2 : w1.cell? ⟨r, 1, none⟩ = some (ptr x) := hb.cell 1
  have f1 : ∀ j, w1.frozen? ⟨r, j, none⟩ = false := hb.frozen
  have c3 : w1.cell? ⟨m + 1, 0, none⟩ = some (.map (some m)) := N1.box.cell 0
  have c4 : w1.cell? ⟨m + 1, 1, none⟩ = some (.pointer none) := N1.box.cell 1
  have e0 : (((x :: t).length : Nat) : Int) > 0 := by rw [List.length_cons]; omega
  generalize hL : (((x :: t).length : Nat) : Int) = L at hl e0 ⊢
  have H := Aside.mk (And.intro hb (And.intro k1 (And.intro N1 (And.intro hlt hm))))
  clear h hb k1 N1 hlt hm hw1 hL
  go_enter Tryd.func45, Tryd.ntmps45
  go_upto_region 3 with (first | (go_at_call 34; refine hl.mono ?_; rintro e w' ⟨rfl, rfl⟩) | fail)
  clear hl
  go_upto_region 4 with (first | (go_at_call 26; refine hn.mono ?_; clear hn; rintro e w2 ⟨rfl, rfl⟩) | fail)
  go_wp2
  go_ret
  obtain ⟨hb, k1, N1, hlt, hm⟩ := H.it
  have k2 : Keeps (fun c => c = r) w2 ((w2.setCell ⟨r, 0, none⟩ (.map (some m))).setCell ⟨r, 1, none⟩ (.pointer none)) := ((Keeps.refl (fun c => c = r) w2).setCell ⟨r, 0, none⟩ _ (fun _ => rfl)).setCell ⟨r, 1, none⟩ _ (fun _ => rfl)
  refine ⟨rfl, m, by omega, ⟨?_, ?_, fun _ h => by simp at h, List.nodup_nil, fun _ h => by simp at h, fun _ h => by simp at h, Rg.nil⟩, ⟨k1.any.trans k2⟩⟩
  · exact (hb.setCell 0 _).setCell 1 _
  · exact (N1.map.later k2 (by omega))
theorem removeO (h : RbO own i w r ks) (hk : Ky k) : Calls Tryd.prog 41 #[ptr r, kv k] w fun e w' => e = .returned (.bool (inT ks k)) ∧ Aside (Keeps (fun c => own c = i) w w' ∧ RbO (give own w.heap.size i) i w' r (remL ks k)) := by
  obtain ⟨mb, l, kf, pf, nf, h, h1, h2, h3, rfl⟩ := h
  have g1 := (give_old (i := i) h.box.lt).trans h1
  have g2 := (give_old (i := i) h.map.lt).trans h2
  have g3 : ∀ b ∈ l, give own w.heap.size i b = i := fun b hb => (give_old (h.seats b hb).lt).trans (h3 b hb)
  cases hm : fk l kf k with
  | none =>
    have hin := fk_none hm
    refine (remove_none h hk hm).mono ?_
    rintro e w' ⟨rfl, rfl⟩
    unfold inT remL
    rw [decide_eq_false hin, List.erase_of_not_mem hin]
    exact ⟨rfl, Keeps.refl _ _, mb, l, kf, pf, nf, h, g1, g2, g3, rfl⟩
  | some b =>
    obtain ⟨hb, eb⟩ := fk_some hm
    have hin : k ∈ l.map kf := List.mem_map.2 ⟨b, hb, eb⟩
    obtain ⟨j, hj⟩ := List.mem_iff_getElem?.1 hb
    refine (remove_some h hk hm hj).mono ?_
    rintro e w' ⟨rfl, pf', nf', H, K⟩
    unfold inT remL
    rw [decide_eq_true hin, ← map_erase h.keys hj h.nodup eb]
    refine ⟨rfl, K.it.mono ?_, mb, l.eraseIdx j, kf, pf', nf', H.it, g1, g2, fun b hb => g3 b (List.mem_of_mem_eraseIdx hb), rfl⟩
    rintro c (e | e | e) _
    · rw [e]; exact h1
    · rw [e]; exact h2
    · exact h3 c e
theorem clearO (h : RbO own i w r ks) : Calls Tryd.prog 45 #[ptr r] w fun e w' => e = .returned (.int .i64 ks.length) ∧ Aside (Keeps (fun c => own c = i) w w' ∧ RbO (give own w.heap.size i) i w' r []) := by
  obtain ⟨mb, l, kf, pf, nf, h, h1, h2, h3, rfl⟩ := h
  have g1 := (give_old (i := i) h.box.lt).trans h1
  have g2 := (give_old (i := i) h.map.lt).trans h2
  rw [List.length_map]
  cases l with
  | nil =>
    refine (clear_none h).mono ?_
    rintro e w' ⟨rfl, rfl⟩
    exact ⟨rfl, Keeps.refl _ _, mb, [], kf, pf, nf, h, g1, g2, fun _ h => by simp at h, rfl⟩
  | cons x t =>
    refine (clear_some h).mono ?_
    rintro e w' ⟨rfl, mb', hmb, H, K⟩
    refine ⟨rfl, K.it.mono ?_, mb', [], kf, _, _, H.it, g1, give_new hmb, fun _ h => by simp at h, rfl⟩
    rintro c e _
    rw [e]; exact h1
end Go.Proofs.YtnohcbdnhpaafaaDoor.Rbuint32

/-
  package robin at keys of type uint32: List
-/
namespace Go.Proofs.YtnohcbdnhpaafaaDoor.Rbuint32
open Go.RowKit

variable {w w' : World} {own own' : Nat → Nat} {i r mb s x z b p q j : Nat} {l t : List Nat} {kf : Nat → Nat} {pf nf : Nat → Option Nat} {k : Nat} {ks : List Nat} {F : Nat → Option Nat}

theorem info_ : ∃ i, Tryd.prog.info? 27 = some i ∧ i.zero = some (.int .u32 0) ∧ i.size = 1 ∧ i.bytes = 4 := by
  have h : (Tryd.prog.info? 27).map (fun i => (i.zero, i.size, i.bytes)) = some (some (.int .u32 0), 1, 4) := by kernel_rfl
  cases e : Tryd.prog.info? 27 with
  | none => rw [e] at h; cases h
  | some i => rw [e] at h; simp only [Option.map_some, Option.some.injEq, Prod.mk.injEq] at h; exact ⟨i, rfl, h.1, h.2.1, h.2.2⟩
theorem fill_step (vs : List Value) (n m : Nat) (z : Value) (hm : m < n) (v : Value) (hv : vs[m]? = some v) : (vs.take m ++ List.replicate (n - m) z).set m v = vs.take (m + 1) ++ List.replicate (n - (m + 1)) z := by
  have hl := (List.getElem?_eq_some_iff.1 hv).1
  rw [List.set_append_right _ _ (by rw [List.length_take]; omega), List.length_take, Nat.min_eq_left (by omega), Nat.sub_self, show n - m = (n - (m + 1)) + 1 by omega, List.replicate_succ, List.set_cons_zero, List.take_add_one, hv]
  simp
theorem list_none (h : RbI w r mb [] kf pf nf) : Calls Tryd.prog 31 #[ptr r] w fun e w' => e = .returned (.slice none 0 0) ∧ w' = w := by
  have hl := len_ h
  go_enter Tryd.func31, Tryd.ntmps31
  go_upto_region 2 with (first | (go_at_call 34; refine hl.mono ?_; rintro e w' ⟨rfl, rfl⟩) | fail)
  go_wp2
  go_ret
  exact ⟨rfl, rfl⟩
theorem list_nil (w : World) : Calls Tryd.prog 31 #[.pointer none] w fun e w' => e = .returned (.slice none 0 0) ∧ w' = w := by
  have hl := len_nil w
  go_enter Tryd.func31, Tryd.ntmps31
  go_upto_region 2 with (first | (go_at_call 34; refine hl.mono ?_; rintro e w' ⟨rfl, rfl⟩) | fail)
  go_wp2
  go_ret
  exact ⟨rfl, rfl⟩
theorem list_some (h : RbI w r mb l kf pf nf) (h0 : l ≠ []) (hmax : l.length * 4 ≤ 140737488355328) : Calls Tryd.prog 31 #[ptr r] w fun e w' => e = .returned (.slice (some ⟨w.heap.size, 0, none⟩) l.length l.length) ∧ Aside (Cells w' w.heap.size 27 (l.map fun b => kv (kf b))) ∧ Aside (Keeps Nowhere w w') := by
  have hl := len_ h
  obtain ⟨n, hn⟩ : ∃ n, n = l.length := ⟨_, rfl⟩
  have n0 : 0 < n := by rw [hn]; exact List.length_pos_iff.2 h0
  rw [← hn] at hl hmax ⊢
  obtain ⟨i0, hi, hz0, hz1, hz2⟩ := info_
  obtain ⟨w1, hrun, hc1, hk1, hs1⟩ := run_makeK (P := Tryd.prog) w 39 27 i0 (.int .u32 0) Tryd.underlying39 hi hz0 hz1 rfl n (by rw [hz2]; omega) (by omega)
  obtain ⟨g, hg⟩ : ∃ g, g = w.heap.size := ⟨_, rfl⟩
  rw [← hg] at hrun hc1 ⊢
  obtain ⟨x, hx⟩ : ∃ x, l[0]? = some x := ⟨_, List.getElem?_eq_getElem (by omega)⟩
  have hb := h.box.later hk1 (fun x => x)
  rw [hx] at hb
  have c1 : w1.cell? ⟨r, 1, none⟩ = some (ptr x) := hb.cell 1
  have HR : MakeRun Tryd.prog 39 n w _ w1 := ⟨hrun⟩
  have H := Aside.mk (And.intro h (And.intro hc1 (And.intro hk1 (And.intro hg (And.intro hn hx)))))
  have e0 : ¬ ((n : Nat) : Int) = 0 := by omega
  have hs : n ≤ 140737488355328 := by omega
  clear h hc1 hk1 hb hg hn hx hrun hi hz0 hz1 hz2 hs1 h0 hmax
  go_enter Tryd.func31, Tryd.ntmps31
  go_upto_region 3 with (first | (go_at_call 34; refine hl.mono ?_; rintro e w' ⟨rfl, rfl⟩) | fail)
  go_upto_region 4 with (first | (go_at_call 34; refine hl.mono ?_; rintro e w' ⟨rfl, rfl⟩) | (at_make; refine wpList_makeK rfl _ _ _ rfl n rfl rfl _ _ HR ?_) | fail)
  clear hl HR
  go_wp2_with fail
  go_loopw [4, 18] (fun sv iv wr => ∃ m y : Nat, iv = .int .i64 m ∧ sv = ptr y ∧ m ≤ n ∧ Aside (l[if m = n then 0 else m]? = some y ∧ Cells wr g 27 ((l.map fun b => kv (kf b)).take m ++ List.replicate (n - m) (.int .u32 0)) ∧ Keeps (fun c => c = g) w1 wr)) (fun _ iv _ => n - (intOf iv).toNat)
  case atStart =>
    obtain ⟨h, hc1, hk1, hg, hn, hx⟩ := H.it
    exact ⟨0, x, rfl, rfl, by omega, ⟨by rw [if_neg (by omega)]; exact hx, by simpa using hc1, Keeps.refl _ _⟩⟩
  case round =>
    obtain ⟨m, y, rfl, rfl, hm, J⟩ := hrel
    by_cases hlt : m < n
    · have hlt' : (m : Int) < (n : Int) := by omega
      obtain ⟨h, hc1, hk1, hg, hn, hx⟩ := H.it
      obtain ⟨hy, hr, hk⟩ := J.it
      rw [if_neg (by omega)] at hy
      have hym := List.mem_of_getElem? hy
      have hs0 := h.seats y hym
      obtain ⟨q, eq, _⟩ := h.ring.behind hym
      have eq' := (h.ring m y hy).1
      rw [eq, ← hn] at eq'
      have hs1 := (hs0.later hk1 (fun x => x)).later hk (by have := hs0.lt; omega)
      rw [eq] at hs1
      have d1 : wr.cell? ⟨y, 0, none⟩ = some (kv (kf y)) := hs1.cell 0
      have d2 : wr.cell? ⟨y, 2, none⟩ = some (ptr q) := hs1.cell 2
      have d3 : ∃ u, wr.cell? ⟨g, m, none⟩ = some u := ⟨_, (hr.cell m).trans (List.getElem?_eq_getElem (by simp; omega))⟩
      obtain ⟨u, d3⟩ := d3
      have d4 := hr.frozen m
      have hgy : g ≠ y := by have := hs0.lt; omega
      have J1 := Aside.mk (And.intro hy (And.intro hr (And.intro hk (And.intro eq' hn))))
      clear h hc1 hk1 hg hn hx hy hr hk hym hs0 eq eq' hs1 J H
      go_wp2_with fail
      obtain ⟨hy, hr, hk, eq', hn⟩ := J1.it
      refine ⟨⟨m + 1, q, by go_num, rfl, by omega, ⟨?_, ?_, hk.setCell ⟨g, m, none⟩ _ (fun _ => rfl)⟩⟩, by simp [intOf]; omega⟩
      · rw [eq']; unfold nx; rfl
      · have := hr.setCell m (kv (kf y))
        rw [fill_step _ n m _ hlt _ (by rw [List.getElem?_map, hy]; rfl)] at this
        exact this
    · obtain rfl : m = n := by omega
      go_wp2_with fail
      go_ret
      obtain ⟨h, hc1, hk1, hg, hn, hx⟩ := H.it
      obtain ⟨hy, hr, hk⟩ := J.it
      rw [Nat.sub_self, List.replicate_zero, List.append_nil, List.take_of_length_le (by simp; omega)] at hr
      exact ⟨rfl, ⟨hr⟩, ⟨hk1.next hk (fun c e hc => by omega)⟩⟩
theorem listO (own : Nat → Nat) (o : Nat) (h : RbO own i w r ks) (hmax : ks.length * 4 ≤ 140737488355328) : Calls Tryd.prog 31 #[ptr r] w fun e w' => ∃ v, e = .returned v ∧ Aside (Keeps Nowhere w w' ∧ RowO (give own w.heap.size o) o w' 27 v (ks.map kv)) ∧ ∃ a, v = .slice a ks.length ks.length := by
  obtain ⟨mb, l, kf, pf, nf, h, h1, h2, h3, rfl⟩ := h
  rw [List.length_map] at hmax ⊢
  by_cases h0 : l = []
  · subst h0
    refine (list_none h).mono ?_
    rintro e w' ⟨rfl, rfl⟩
    exact ⟨_, rfl, ⟨Keeps.refl _ _, .inl ⟨rfl, rfl⟩, fun k hk => by cases hk⟩, _, rfl⟩
  · refine (list_some h h0 hmax).mono ?_
    rintro e w' ⟨rfl, hc, hk⟩
    refine ⟨_, rfl, ⟨hk.it, .inr ⟨_, ?_, by rw [List.map_map]; exact hc.it⟩, ?_⟩, _, rfl⟩
    · simp
    · intro k hk
      cases hk
      exact give_new (Nat.le_refl _)
end Go.Proofs.YtnohcbdnhpaafaaDoor.Rbuint32

