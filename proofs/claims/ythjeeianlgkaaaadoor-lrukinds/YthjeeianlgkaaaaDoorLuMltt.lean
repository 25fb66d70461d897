/-
  package lru: the table of things (a map from a key to its thing's box), keys of type ltt
-/
import Derived.Test.YthjeeianlgkaaaaDoorProg
import Derived.Test.YthjeeianlgkaaaaDoorLuP
import Derived.Test.YthjeeianlgkaaaaDoorSnA
import Derived.Maps.OwnSet
import Derived.Maps.OwnOps
import Derived.Maps.Keyed
import Derived.MapViews
import Derived.DeepKeys4
import Derived.ChangeKeysEq
import Derived.Test.YthjeeianlgkaaaaDoorTextI
import Derived.Test.YthjeeianlgkaaaaDoorItoaI
namespace Go.Proofs.YthjeeianlgkaaaaDoor.Lultt
open Go.RowKit Go.Maps

def tl (k : Int) : List UInt8 := if -9223372036854775808 ≤ k ∧ k ≤ 9223372036854775807 then Lib.itoa k else []
def tx (k : Int) : ByteArray := ⟨(tl k).toArray⟩
theorem tl_in {k : Int} (h : I6 k) : tl k = Lib.itoa k := if_pos h

abbrev kv (k : Int) : Value := .string (tx k)
def kl (k : Int) : Lit := .string (tl k)
/-- a thing's value, a thing's cells -/
abbrev tv (t : Int) : Value := .string (tx t)
abbrev kcs (k : Int) : List Value := [kv k]
def rk (L : List Rx) : List Value := L.flatMap (fun x => kcs x.k)
abbrev tc (x : Rx) (a b : Value) : List Value := [.string (tx x.k), .string (tx x.t), .int .i64 x.w, .int .i64 x.u, a, b]
/-- what a key may be -/
def Ky (k : Int) : Prop := I6 k
theorem keyed_ : Keyed Tryd.prog 9 := string_keyed Tryd.underlying9
theorem keyOf_kv {k : Int} (h : Ky k) : keyOf Tryd.prog 9 (kv k) = some (kl k) := by
  unfold keyOf mapKey kl
  simp only [Tryd.underlying9]
  have h1 : (tx k).size ≤ maxLen := by
    have h0 := itoa_len k h
    show (tl k).toArray.size ≤ maxLen
    rw [tl_in h, List.size_toArray]
    unfold maxLen; omega
  rw [if_pos h1]
  rfl
theorem kv_inj {k k' : Int} (h : Ky k) (h' : Ky k') (e : kv k = kv k') : k = k' := by
  have e1 : tx k = tx k' := by injection e
  injection e1 with e1
  have e2 := congrArg Array.toList e1
  simp only at e2
  rw [tl_in h, tl_in h'] at e2
  exact itoa_inj e2
theorem kl_inj {k k' : Int} (h : Ky k) (h' : Ky k') (e : kl k = kl k') : k = k' := by
  have h1 := keyOf_kv h
  rw [e] at h1
  exact kv_inj h h' (keyed_.inj h1 (keyOf_kv h'))

def Rp (v : Value) : Option (DataW Unit × List MemPlace) := match v with
  | .pointer none => some (.nil, [])
  | .pointer (some ⟨b, 0, none⟩) => some (.lit (.int .i64 b), [])
  | _ => none
def dF : Option Nat → DataW Unit
  | none => .nil
  | some b => .lit (.int .i64 b)
def vF : Option Nat → Value
  | none => .pointer none
  | some b => ptr b
theorem rp_inv {v : Value} {o : Option Nat} {ps : List MemPlace} (h : Rp v = some (dF o, ps)) : v = vF o := by
  unfold Rp at h
  split at h
  · cases o with
    | none => rfl
    | some b => simp [dF] at h
  · cases o with
    | none => simp [dF] at h
    | some b =>
      simp only [dF, Option.some.injEq, Prod.mk.injEq, DataW.lit.injEq, Lit.int.injEq, true_and] at h
      have : _ = b := Int.ofNat.inj h.1
      subst this
      rfl
  · cases h

/-- the table: n keys, each with its seat -/
def MapB (w : World) (mb n : Nat) (F : Int → Option Nat) : Prop :=
  ∃ D, w.ownsMap Tryd.prog 9 Rp mb n D ∧ Maps.size D = n ∧ ∀ k, Ky k → D.atKey (kl k) .nil = dF (F k) ∧ Maps.has D (kl k) = (F k).isSome

variable {w w' : World} {mb n : Nat} {F : Int → Option Nat} {k : Int}

theorem MapB.lt (h : MapB w mb n F) : mb < w.heap.size := by obtain ⟨D, h, _⟩ := h; exact h.lt
theorem MapB.isMap (h : MapB w mb n F) : ∃ es clock, w.heap[mb]? = some (.map es clock) := by obtain ⟨D, ⟨es, clock, hb, _⟩, _⟩ := h; exact ⟨es, clock, hb⟩
theorem MapB.later {S : Nat → Prop} (h : MapB w mb n F) (hk : Keeps S w w') (hn : ¬ S mb) : MapB w' mb n F := by
  have hlt := h.lt
  obtain ⟨D, ⟨es, clock, hb, F', hs, hD⟩, h1⟩ := h
  exact ⟨D, ⟨es, clock, (hk.block mb hlt hn).trans hb, F', hs, hD⟩, h1⟩
theorem MapB.made (w : World) : MapB (w.alloc (.map #[] 0)) w.heap.size 0 (fun _ => none) :=
  ⟨_, World.ownsMap_made w _ _ _, rfl, fun _ _ => ⟨rfl, rfl⟩⟩
theorem zero_ptr (w : World) : (zeroValue 90).run Tryd.prog w = .ok (.pointer none) w := by kernel_rfl
theorem MapB.look (h : MapB w mb n F) (hw : Ky k) : (Instr.lookup 93 (.map (some mb)) (kv k) false).run Tryd.prog w = .ok (vF (F k)) w := by
  obtain ⟨D, h, _, h1⟩ := h
  obtain ⟨v, ps, hrun, hv⟩ := h.lookup keyed_ Tryd.underlying93 (zero_ptr w) (zd := .nil) (zp := []) rfl (keyOf_kv hw)
  rw [(h1 k hw).1] at hv
  rw [hrun, rp_inv hv]
theorem MapB.len (h : MapB w mb n F) (ty : TypeId) : (Builtin.len_ #[93] ty #[.map (some mb)]).run Tryd.prog w = .ok (.int .i64 n) w := by
  obtain ⟨D, h, h2, _⟩ := h
  rw [h.len Tryd.underlying93 ty, h2]
theorem keeps_of_grown {b : Nat} (hg : w.grownBy w' (some b)) : Keeps (fun k => k = b) w w' := ⟨hg.os, hg.tape, hg.output, hg.size, fun k hk hn => hg.block k hk (fun e => hn (by injection e))⟩
theorem MapB.store (h : MapB w mb n F) (hn : n < maxLen) (hw : Ky k) (h0 : F k = none) (b : Nat) : ∃ w', (Instr.mapUpdate 93 (.map (some mb)) (kv k) (ptr b)).run Tryd.prog w = .ok () w' ∧ MapB w' mb (n + 1) (setK F k (some b)) ∧ Keeps (fun x => x = mb) w w' := by
  obtain ⟨D, h, h2, h1⟩ := h
  obtain ⟨w', hrun, ho, hg⟩ := h.update keyed_ Tryd.underlying93 hn (keyOf_kv hw) (val := ptr b) (d := .lit (.int .i64 b)) (ps := []) rfl
  refine ⟨w', hrun, ⟨_, ho, ?_, fun k' hw' => ?_⟩, keeps_of_grown hg⟩
  · rw [Maps.size_put (h.tidy keyed_), (h1 k hw).2, h0, h2]; rfl
  unfold setK
  split
  · rename_i e
    subst e
    exact ⟨atKey_put_same h.isMap (keyed_.key (keyOf_kv hw)) _ _, Maps.has_put_same h.isMap (keyed_.key (keyOf_kv hw)) _⟩
  · rename_i e
    rw [atKey_put_other (fun x => e (kl_inj hw' hw x)), Maps.has_put_other (fun x => e (kl_inj hw' hw x))]
    exact h1 k' hw'
theorem MapB.drop {b : Nat} (h : MapB w mb n F) (hw : Ky k) (h0 : F k = some b) : ∃ w', (∀ ty, (Builtin.delete_ #[93, 9] ty #[.map (some mb), kv k]).run Tryd.prog w = .ok (.tuple #[]) w') ∧ MapB w' mb (n - 1) (setK F k none) ∧ Keeps (fun x => x = mb) w w' := by
  obtain ⟨D, h, h2, h1⟩ := h
  obtain ⟨w', hrun, ho, ht⟩ := h.drop keyed_ Tryd.underlying93 (keyOf_kv hw) 0
  have hsz := Maps.size_del (k := kl k) (h.tidy keyed_)
  rw [(h1 k hw).2, h0, h2] at hsz
  simp only [Option.isSome_some, if_true] at hsz
  refine ⟨w', fun ty => hrun, ⟨D.del (kl k), ?_, by omega, fun k' hw' => ?_⟩, keeps_of_grown ht.grown⟩
  · obtain ⟨es, clock, hb, F', hs, hD⟩ := ho
    have e : Maps.size (D.del (kl k)) = es.size := by rw [hD]; simp [Maps.size, length_sorted]
    exact ⟨es, clock, hb, F', by omega, hD⟩
  unfold setK
  split
  · rename_i e
    subst e
    exact ⟨atKey_del_same _, Maps.has_del_same⟩
  · rename_i e
    rw [atKey_del_other (fun x => e (kl_inj hw' hw x)), Maps.has_del_other (fun x => e (kl_inj hw' hw x))]
    exact h1 k' hw'
end Go.Proofs.YthjeeianlgkaaaaDoor.Lultt
