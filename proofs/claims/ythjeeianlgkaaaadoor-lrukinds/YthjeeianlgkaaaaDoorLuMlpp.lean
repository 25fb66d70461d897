/-
  package lru: the table of things (a map from a key to its thing's box), keys of type lpp
-/
import Derived.Test.YthjeeianlgkaaaaDoorProg
import Derived.Test.YthjeeianlgkaaaaDoorLuP
import Derived.Test.YthjeeianlgkaaaaDoorSnA
import Derived.Maps.OwnSet
import Derived.Maps.OwnOps
import Derived.Maps.Keyed
import Derived.MapViews
import Derived.DeepKeys4
import Derived.ChangeKeysEq
import Derived.Test.YthjeeianlgkaaaaDoorTextI
import Derived.Test.YthjeeianlgkaaaaDoorItoaI
namespace Go.Proofs.YthjeeianlgkaaaaDoor.Lulpp
open Go.RowKit Go.Maps

def p0 (k : Int) : Int := if -9223372036854775808 ≤ k ∧ k ≤ 9223372036854775807 then k else 0
def p1 (k : Int) : Int := if -9223372036854775808 ≤ k ∧ k ≤ 9223372036854775807 then 7 else 0
def va (t : Int) : Option Addr := if 0 ≤ t then some ⟨t.toNat, 0, none⟩ else none
def vn (t : Int) : Nat := if 0 ≤ t then 1 else 0
theorem p0_in {k : Int} (h : I6 k) : p0 k = k := if_pos h
theorem p1_in {k : Int} (h : I6 k) : p1 k = 7 := if_pos h
theorem laidOutB_ : laidOutB Tryd.prog = true := by kernel_rfl
theorem row_key : (55 : TypeId) < Tryd.prog.types.size := of_decide_eq_true (by kernel_rfl)
theorem deep_key : Tryd.prog.keyTypeAt (Tryd.prog.types.size + 1) 55 = true := by kernel_rfl
theorem wide_key : (match Tryd.prog.underlying 55 with | some (.array _ _) | some (.struct _) => true | _ => false) = true := by rw [Tryd.underlying55]
theorem deep3_key : Tryd.prog.keyTypeAt 3 55 = true := by kernel_rfl
set_option maxRecDepth 20000 in
theorem law_key : WideMaps.KeyLaw Tryd.prog 55 := deep_law_laid (m := 3) laidOutB_ (by decide) row_key deep3_key wide_key
theorem cells_key : Tryd.prog.cellsOf 55 = 2 := by kernel_rfl
theorem cells_int : Tryd.prog.cellsOf 3 = 1 := by kernel_rfl
theorem succ_of_lt {n m : Nat} (h : n < m) : ∃ d, m = d + 1 := ⟨m - 1, by omega⟩

abbrev kv (k : Int) : Value := .agg #[.int .i64 (p0 k), .int .i64 (p1 k)]
def kl (k : Int) : Lit := .string (keyBytes [.int .i64 (p0 k), .int .i64 (p1 k)])
/-- a thing's value, a thing's cells -/
abbrev tv (t : Int) : Value := .slice (va t) (vn t) (vn t)
abbrev kcs (k : Int) : List Value := [.int .i64 (p0 k), .int .i64 (p1 k)]
def rk (L : List Rx) : List Value := L.flatMap (fun x => kcs x.k)
abbrev tc (x : Rx) (a b : Value) : List Value := [.int .i64 (p0 x.k), .int .i64 (p1 x.k), .slice (va x.t) (vn x.t) (vn x.t), .int .i64 x.w, .int .i64 x.u, a, b]
/-- what a key may be -/
def Ky (k : Int) : Prop := I6 k
theorem keyed_ : Keyed Tryd.prog 55 := Keyed.of_law law_key
theorem keyOf_kv {k : Int} (h : Ky k) : keyOf Tryd.prog 55 (kv k) = some (kl k) := by
  have hf : (kv k).formed Tryd.prog 55 = true := by simp [Value.formed, Tryd.underlying55, cells_key]
  have w0 : (Lit.int .i64 (p0 k)).wf = true := by
    have h1 : IntKind.min .i64 = -9223372036854775808 := by decide
    have h2 : IntKind.max .i64 = 9223372036854775807 := by decide
    rw [p0_in h]
    simp only [Lit.wf, h1, h2, Bool.and_eq_true, decide_eq_true_eq]; exact h
  have w1 : (Lit.int .i64 (p1 k)).wf = true := by rw [p1_in h]; decide
  have hd : Tryd.prog.keyType 55 = true := deep_key
  obtain ⟨d, hsz⟩ : ∃ d, Tryd.prog.types.size = d + 1 := succ_of_lt row_key
  have hl : Tryd.prog.keyLits (Tryd.prog.types.size + 1) 55 [.int .i64 (p0 k), .int .i64 (p1 k)] = some [.int .i64 (p0 k), .int .i64 (p1 k)] := by
    rw [hsz]
    unfold Program.keyLits
    simp only [Tryd.underlying55, cells_key, cells_int]
    rw [if_pos (show List.length _ = 2 from rfl)]
    simp only [show List.range 2 = [0, 1] from rfl, List.mapM_cons, List.mapM_nil, Program.keyLits, Tryd.underlying3]
    simp [w0, w1]
  unfold keyOf
  simp only [Tryd.underlying55, hd, hf, Bool.and_self, if_true]
  show (Tryd.prog.keyLits (Tryd.prog.types.size + 1) 55 [.int .i64 (p0 k), .int .i64 (p1 k)]).map (fun ls => Lit.string (keyBytes ls)) = some (kl k)
  rw [hl]
  rfl
theorem kv_inj {k k' : Int} (h : Ky k) (h' : Ky k') (e : kv k = kv k') : k = k' := by
  have e1 : (Value.int .i64 (p0 k)) = .int .i64 (p0 k') := by
    have := congrArg (fun v : Value => v.cells[0]?) e
    simpa [Value.cells] using this
  injection e1 with _ e1
  rw [p0_in h, p0_in h'] at e1
  exact e1
theorem kl_inj {k k' : Int} (h : Ky k) (h' : Ky k') (e : kl k = kl k') : k = k' := by
  have h1 := keyOf_kv h
  rw [e] at h1
  exact kv_inj h h' (keyed_.inj h1 (keyOf_kv h'))

def Rp (v : Value) : Option (DataW Unit × List MemPlace) := match v with
  | .pointer none => some (.nil, [])
  | .pointer (some ⟨b, 0, none⟩) => some (.lit (.int .i64 b), [])
  | _ => none
def dF : Option Nat → DataW Unit
  | none => .nil
  | some b => .lit (.int .i64 b)
def vF : Option Nat → Value
  | none => .pointer none
  | some b => ptr b
theorem rp_inv {v : Value} {o : Option Nat} {ps : List MemPlace} (h : Rp v = some (dF o, ps)) : v = vF o := by
  unfold Rp at h
  split at h
  · cases o with
    | none => rfl
    | some b => simp [dF] at h
  · cases o with
    | none => simp [dF] at h
    | some b =>
      simp only [dF, Option.some.injEq, Prod.mk.injEq, DataW.lit.injEq, Lit.int.injEq, true_and] at h
      have : _ = b := Int.ofNat.inj h.1
      subst this
      rfl
  · cases h

/-- the table: n keys, each with its seat -/
def MapB (w : World) (mb n : Nat) (F : Int → Option Nat) : Prop :=
  ∃ D, w.ownsMap Tryd.prog 55 Rp mb n D ∧ Maps.size D = n ∧ ∀ k, Ky k → D.atKey (kl k) .nil = dF (F k) ∧ Maps.has D (kl k) = (F k).isSome

variable {w w' : World} {mb n : Nat} {F : Int → Option Nat} {k : Int}

theorem MapB.lt (h : MapB w mb n F) : mb < w.heap.size := by obtain ⟨D, h, _⟩ := h; exact h.lt
theorem MapB.isMap (h : MapB w mb n F) : ∃ es clock, w.heap[mb]? = some (.map es clock) := by obtain ⟨D, ⟨es, clock, hb, _⟩, _⟩ := h; exact ⟨es, clock, hb⟩
theorem MapB.later {S : Nat → Prop} (h : MapB w mb n F) (hk : Keeps S w w') (hn : ¬ S mb) : MapB w' mb n F := by
  have hlt := h.lt
  obtain ⟨D, ⟨es, clock, hb, F', hs, hD⟩, h1⟩ := h
  exact ⟨D, ⟨es, clock, (hk.block mb hlt hn).trans hb, F', hs, hD⟩, h1⟩
theorem MapB.made (w : World) : MapB (w.alloc (.map #[] 0)) w.heap.size 0 (fun _ => none) :=
  ⟨_, World.ownsMap_made w _ _ _, rfl, fun _ _ => ⟨rfl, rfl⟩⟩
theorem zero_ptr (w : World) : (zeroValue 96).run Tryd.prog w = .ok (.pointer none) w := by kernel_rfl
theorem MapB.look (h : MapB w mb n F) (hw : Ky k) : (Instr.lookup 99 (.map (some mb)) (kv k) false).run Tryd.prog w = .ok (vF (F k)) w := by
  obtain ⟨D, h, _, h1⟩ := h
  obtain ⟨v, ps, hrun, hv⟩ := h.lookup keyed_ Tryd.underlying99 (zero_ptr w) (zd := .nil) (zp := []) rfl (keyOf_kv hw)
  rw [(h1 k hw).1] at hv
  rw [hrun, rp_inv hv]
theorem MapB.len (h : MapB w mb n F) (ty : TypeId) : (Builtin.len_ #[99] ty #[.map (some mb)]).run Tryd.prog w = .ok (.int .i64 n) w := by
  obtain ⟨D, h, h2, _⟩ := h
  rw [h.len Tryd.underlying99 ty, h2]
theorem keeps_of_grown {b : Nat} (hg : w.grownBy w' (some b)) : Keeps (fun k => k = b) w w' := ⟨hg.os, hg.tape, hg.output, hg.size, fun k hk hn => hg.block k hk (fun e => hn (by injection e))⟩
theorem MapB.store (h : MapB w mb n F) (hn : n < maxLen) (hw : Ky k) (h0 : F k = none) (b : Nat) : ∃ w', (Instr.mapUpdate 99 (.map (some mb)) (kv k) (ptr b)).run Tryd.prog w = .ok () w' ∧ MapB w' mb (n + 1) (setK F k (some b)) ∧ Keeps (fun x => x = mb) w w' := by
  obtain ⟨D, h, h2, h1⟩ := h
  obtain ⟨w', hrun, ho, hg⟩ := h.update keyed_ Tryd.underlying99 hn (keyOf_kv hw) (val := ptr b) (d := .lit (.int .i64 b)) (ps := []) rfl
  refine ⟨w', hrun, ⟨_, ho, ?_, fun k' hw' => ?_⟩, keeps_of_grown hg⟩
  · rw [Maps.size_put (h.tidy keyed_), (h1 k hw).2, h0, h2]; rfl
  unfold setK
  split
  · rename_i e
    subst e
    exact ⟨atKey_put_same h.isMap (keyed_.key (keyOf_kv hw)) _ _, Maps.has_put_same h.isMap (keyed_.key (keyOf_kv hw)) _⟩
  · rename_i e
    rw [atKey_put_other (fun x => e (kl_inj hw' hw x)), Maps.has_put_other (fun x => e (kl_inj hw' hw x))]
    exact h1 k' hw'
theorem MapB.drop {b : Nat} (h : MapB w mb n F) (hw : Ky k) (h0 : F k = some b) : ∃ w', (∀ ty, (Builtin.delete_ #[99, 55] ty #[.map (some mb), kv k]).run Tryd.prog w = .ok (.tuple #[]) w') ∧ MapB w' mb (n - 1) (setK F k none) ∧ Keeps (fun x => x = mb) w w' := by
  obtain ⟨D, h, h2, h1⟩ := h
  obtain ⟨w', hrun, ho, ht⟩ := h.drop keyed_ Tryd.underlying99 (keyOf_kv hw) 0
  have hsz := Maps.size_del (k := kl k) (h.tidy keyed_)
  rw [(h1 k hw).2, h0, h2] at hsz
  simp only [Option.isSome_some, if_true] at hsz
  refine ⟨w', fun ty => hrun, ⟨D.del (kl k), ?_, by omega, fun k' hw' => ?_⟩, keeps_of_grown ht.grown⟩
  · obtain ⟨es, clock, hb, F', hs, hD⟩ := ho
    have e : Maps.size (D.del (kl k)) = es.size := by rw [hD]; simp [Maps.size, length_sorted]
    exact ⟨es, clock, hb, F', by omega, hD⟩
  unfold setK
  split
  · rename_i e
    subst e
    exact ⟨atKey_del_same _, Maps.has_del_same⟩
  · rename_i e
    rw [atKey_del_other (fun x => e (kl_inj hw' hw x)), Maps.has_del_other (fun x => e (kl_inj hw' hw x))]
    exact h1 k' hw'
end Go.Proofs.YthjeeianlgkaaaaDoor.Lulpp
