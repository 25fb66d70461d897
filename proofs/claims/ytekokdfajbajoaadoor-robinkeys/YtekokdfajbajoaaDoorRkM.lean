/-
  package robin: the table of seats (a map from a key to its seat's box), keys of law 12's type key: "k" and the number's text, and the number as uint32
-/
import Derived.Test.YtekokdfajbajoaaDoorProg
import Derived.Test.YtekokdfajbajoaaDoorRbP
import Derived.Test.YtekokdfajbajoaaDoorSnA
import Derived.Maps.OwnSet
import Derived.Maps.OwnOps
import Derived.Maps.Keyed
import Derived.MapViews
import Derived.DeepKeys4
import Derived.Test.YtekokdfajbajoaaDoorTextI
namespace Go.Proofs.YtekokdfajbajoaaDoor.Rbkey
open Go.RowKit Go.Maps Go.Proofs.YtekokdfajbajoaaDoor.Wd

def kt (k : Int) : Value := .string ⟨(107 :: Lib.itoa k).toArray⟩
def kn (k : Int) : Value := .int .u32 (IntKind.wrap .u32 k)
abbrev kv (k : Int) : Value := .agg #[kt k, kn k]
def kl (k : Int) : Lit := .string (keyBytes [.string (107 :: Lib.itoa k), .int .u32 (IntKind.wrap .u32 k)])
/-- what a number may be -/
def Ky (k : Int) : Prop := -9223372036854775808 ≤ k ∧ k ≤ 9223372036854775807
theorem laidOutB_ : laidOutB Tryd.prog = true := by kernel_rfl
theorem row_key : (28 : TypeId) < Tryd.prog.types.size := of_decide_eq_true (by kernel_rfl)
theorem deep_key : Tryd.prog.keyTypeAt (Tryd.prog.types.size + 1) 28 = true := by kernel_rfl
theorem wide_key : (match Tryd.prog.underlying 28 with | some (.array _ _) | some (.struct _) => true | _ => false) = true := by rw [Tryd.underlying28]
theorem deep3_key : Tryd.prog.keyTypeAt 3 28 = true := by kernel_rfl
set_option maxRecDepth 20000 in
theorem law_key : WideMaps.KeyLaw Tryd.prog 28 := deep_law_laid (m := 3) laidOutB_ (by decide) row_key deep3_key wide_key
theorem keyed_ : Keyed Tryd.prog 28 := Keyed.of_law law_key
theorem cells_key : Tryd.prog.cellsOf 28 = 2 := by kernel_rfl
theorem cells_str : Tryd.prog.cellsOf 9 = 1 := by kernel_rfl
theorem cells_u32 : Tryd.prog.cellsOf 26 = 1 := by kernel_rfl
theorem succ_of_lt {n m : Nat} (h : n < m) : ∃ d, m = d + 1 := ⟨m - 1, by omega⟩
theorem nDigits_le : ∀ (d u : Nat), u < 10 ^ d → 0 < d → (Lib.decDigits u).length ≤ d := by
  intro d
  induction d with
  | zero => intro u _ h; omega
  | succ d ih =>
    intro u hu _
    rw [Lib.decDigits]
    split
    · simp
    · rw [List.length_append, List.length_singleton]
      have h0 : 0 < d := by
        rcases Nat.eq_zero_or_pos d with e | e
        · subst e; omega
        · exact e
      have := ih (u / 10) (by rw [Nat.pow_succ] at hu; omega) h0
      omega
theorem itoa_len (k : Int) (h : Ky k) : (Lib.itoa k).length ≤ 21 := by
  have h1 := h.1
  have h2 := h.2
  unfold Lib.itoa
  split
  · have h3 : k.natAbs ≤ 9223372036854775808 := by omega
    have := nDigits_le 20 k.natAbs (Nat.lt_of_le_of_lt h3 (by decide)) (by decide)
    rw [List.length_cons]; omega
  · have h3 : k.toNat ≤ 9223372036854775807 := by omega
    have := nDigits_le 20 k.toNat (Nat.lt_of_le_of_lt h3 (by decide)) (by decide)
    omega
theorem itoa_inj {a b : Int} (h : Lib.itoa a = Lib.itoa b) : a = b := by
  have no : ∀ n : Nat, ∀ r, Lib.decDigits n ≠ 45 :: r := fun n r e => by have := dd_digit n 45 (by rw [e]; simp); simp at this
  unfold Lib.itoa at h
  split at h <;> split at h
  · have := dd_inj (List.cons.inj h).2; omega
  · exact absurd h.symm (no _ _)
  · exact absurd h (no _ _)
  · have := dd_inj h; omega
theorem wrap_u32 (k : Int) : 0 ≤ IntKind.wrap .u32 k ∧ IntKind.wrap .u32 k ≤ 4294967295 := by
  have e : IntKind.wrap .u32 k = k % 4294967296 := by
    simp [IntKind.wrap, IntKind.signed, IntKind.bits]
  rw [e]
  omega
theorem keyOf_kv {k : Int} (h : Ky k) : keyOf Tryd.prog 28 (kv k) = some (kl k) := by
  have hf : (kv k).formed Tryd.prog 28 = true := by simp [Value.formed, Tryd.underlying28, cells_key]
  have wk : (107 :: Lib.itoa k).length ≤ maxLen := by
    have := itoa_len k h
    rw [List.length_cons]; unfold maxLen; omega
  have ws : (Lit.int .u32 (IntKind.wrap .u32 k)).wf = true := by
    have h1 : IntKind.min .u32 = 0 := by decide
    have h2 : IntKind.max .u32 = 4294967295 := by decide
    simp only [Lit.wf, h1, h2, Bool.and_eq_true, decide_eq_true_eq]
    exact wrap_u32 k
  have hd : Tryd.prog.keyType 28 = true := deep_key
  obtain ⟨d, hsz⟩ : ∃ d, Tryd.prog.types.size = d + 1 := succ_of_lt row_key
  have hl : Tryd.prog.keyLits (Tryd.prog.types.size + 1) 28 [kt k, kn k] = some [.string (107 :: Lib.itoa k), .int .u32 (IntKind.wrap .u32 k)] := by
    rw [hsz]
    unfold Program.keyLits
    simp only [Tryd.underlying28, cells_key]
    rw [if_pos ⟨rfl, by simp⟩]
    simp only [List.mapM_cons, List.mapM_nil, Program.keyLits, Tryd.underlying9, Tryd.underlying26, cells_str, cells_u32, kt, kn]
    have wk' : (Lib.itoa k).length + 1 ≤ maxLen := by rw [List.length_cons] at wk; exact wk
    simp [wk', ws, ByteArray.size]
  unfold keyOf
  simp only [Tryd.underlying28, hd, hf, Bool.and_self, if_true]
  show (Tryd.prog.keyLits (Tryd.prog.types.size + 1) 28 [kt k, kn k]).map (fun ls => Lit.string (keyBytes ls)) = some (kl k)
  rw [hl]
  rfl
theorem kv_inj {k k' : Int} (e : kv k = kv k') : k = k' := by
  simp only [kv, kt, Value.agg.injEq] at e
  have e1 : (Value.string ⟨(107 :: Lib.itoa k).toArray⟩) = .string ⟨(107 :: Lib.itoa k').toArray⟩ := by
    have := congrArg (fun a : Array Value => a[0]?) e
    simpa using this
  injection e1 with e1
  injection e1 with e1
  have e2 := congrArg Array.toList e1
  exact itoa_inj (List.cons.inj e2).2
theorem kl_inj {k k' : Int} (h : Ky k) (h' : Ky k') (e : kl k = kl k') : k = k' := by
  have h1 := keyOf_kv h
  rw [e] at h1
  exact kv_inj (keyed_.inj h1 (keyOf_kv h'))

def Rp (v : Value) : Option (DataW Unit × List MemPlace) := match v with
  | .pointer none => some (.nil, [])
  | .pointer (some ⟨b, 0, none⟩) => some (.lit (.int .i64 b), [])
  | _ => none
def dF : Option Nat → DataW Unit
  | none => .nil
  | some b => .lit (.int .i64 b)
def vF : Option Nat → Value
  | none => .pointer none
  | some b => ptr b
theorem rp_inv {v : Value} {o : Option Nat} {ps : List MemPlace} (h : Rp v = some (dF o, ps)) : v = vF o := by
  unfold Rp at h
  split at h
  · cases o with
    | none => rfl
    | some b => simp [dF] at h
  · cases o with
    | none => simp [dF] at h
    | some b =>
      simp only [dF, Option.some.injEq, Prod.mk.injEq, DataW.lit.injEq, Lit.int.injEq, true_and] at h
      have : _ = b := Int.ofNat.inj h.1
      subst this
      rfl
  · cases h

/-- the table: n keys, each with its seat -/
def MapB (w : World) (mb n : Nat) (F : Int → Option Nat) : Prop :=
  ∃ D, w.ownsMap Tryd.prog 28 Rp mb n D ∧ Maps.size D = n ∧ ∀ k, Ky k → D.atKey (kl k) .nil = dF (F k) ∧ Maps.has D (kl k) = (F k).isSome

variable {w w' : World} {mb n : Nat} {F : Int → Option Nat} {k : Int}

theorem MapB.lt (h : MapB w mb n F) : mb < w.heap.size := by obtain ⟨D, h, _⟩ := h; exact h.lt
theorem MapB.isMap (h : MapB w mb n F) : ∃ es clock, w.heap[mb]? = some (.map es clock) := by obtain ⟨D, ⟨es, clock, hb, _⟩, _⟩ := h; exact ⟨es, clock, hb⟩
theorem MapB.later {S : Nat → Prop} (h : MapB w mb n F) (hk : Keeps S w w') (hn : ¬ S mb) : MapB w' mb n F := by
  have hlt := h.lt
  obtain ⟨D, ⟨es, clock, hb, F', hs, hD⟩, h1⟩ := h
  exact ⟨D, ⟨es, clock, (hk.block mb hlt hn).trans hb, F', hs, hD⟩, h1⟩
theorem MapB.made (w : World) : MapB (w.alloc (.map #[] 0)) w.heap.size 0 (fun _ => none) :=
  ⟨_, World.ownsMap_made w _ _ _, rfl, fun _ _ => ⟨rfl, rfl⟩⟩
theorem zero_ptr (w : World) : (zeroValue 52).run Tryd.prog w = .ok (.pointer none) w := by kernel_rfl
theorem MapB.look (h : MapB w mb n F) (hw : Ky k) : (Instr.lookup 51 (.map (some mb)) (kv k) false).run Tryd.prog w = .ok (vF (F k)) w := by
  obtain ⟨D, h, _, h1⟩ := h
  obtain ⟨v, ps, hrun, hv⟩ := h.lookup keyed_ Tryd.underlying51 (zero_ptr w) (zd := .nil) (zp := []) rfl (keyOf_kv hw)
  rw [(h1 k hw).1] at hv
  rw [hrun, rp_inv hv]
theorem MapB.len (h : MapB w mb n F) (ty : TypeId) : (Builtin.len_ #[51] ty #[.map (some mb)]).run Tryd.prog w = .ok (.int .i64 n) w := by
  obtain ⟨D, h, h2, _⟩ := h
  rw [h.len Tryd.underlying51 ty, h2]
theorem keeps_of_grown {b : Nat} (hg : w.grownBy w' (some b)) : Keeps (fun k => k = b) w w' := ⟨hg.os, hg.tape, hg.output, hg.size, fun k hk hn => hg.block k hk (fun e => hn (by injection e))⟩
theorem MapB.store (h : MapB w mb n F) (hn : n < maxLen) (hw : Ky k) (h0 : F k = none) (b : Nat) : ∃ w', (Instr.mapUpdate 51 (.map (some mb)) (kv k) (ptr b)).run Tryd.prog w = .ok () w' ∧ MapB w' mb (n + 1) (setK F k (some b)) ∧ Keeps (fun x => x = mb) w w' := by
  obtain ⟨D, h, h2, h1⟩ := h
  obtain ⟨w', hrun, ho, hg⟩ := h.update keyed_ Tryd.underlying51 hn (keyOf_kv hw) (val := ptr b) (d := .lit (.int .i64 b)) (ps := []) rfl
  refine ⟨w', hrun, ⟨_, ho, ?_, fun k' hw' => ?_⟩, keeps_of_grown hg⟩
  · rw [Maps.size_put (h.tidy keyed_), (h1 k hw).2, h0, h2]; rfl
  unfold setK
  split
  · rename_i e
    subst e
    exact ⟨atKey_put_same h.isMap (keyed_.key (keyOf_kv hw)) _ _, Maps.has_put_same h.isMap (keyed_.key (keyOf_kv hw)) _⟩
  · rename_i e
    rw [atKey_put_other (fun x => e (kl_inj hw' hw x)), Maps.has_put_other (fun x => e (kl_inj hw' hw x))]
    exact h1 k' hw'
theorem MapB.drop {b : Nat} (h : MapB w mb n F) (hw : Ky k) (h0 : F k = some b) : ∃ w', (∀ ty, (Builtin.delete_ #[51, 28] ty #[.map (some mb), kv k]).run Tryd.prog w = .ok (.tuple #[]) w') ∧ MapB w' mb (n - 1) (setK F k none) ∧ Keeps (fun x => x = mb) w w' := by
  obtain ⟨D, h, h2, h1⟩ := h
  obtain ⟨w', hrun, ho, ht⟩ := h.drop keyed_ Tryd.underlying51 (keyOf_kv hw) 0
  have hsz := Maps.size_del (k := kl k) (h.tidy keyed_)
  rw [(h1 k hw).2, h0, h2] at hsz
  simp only [Option.isSome_some, if_true] at hsz
  refine ⟨w', fun ty => hrun, ⟨D.del (kl k), ?_, by omega, fun k' hw' => ?_⟩, keeps_of_grown ht.grown⟩
  · obtain ⟨es, clock, hb, F', hs, hD⟩ := ho
    have e : Maps.size (D.del (kl k)) = es.size := by rw [hD]; simp [Maps.size, length_sorted]
    exact ⟨es, clock, hb, F', by omega, hD⟩
  unfold setK
  split
  · rename_i e
    subst e
    exact ⟨atKey_del_same _, Maps.has_del_same⟩
  · rename_i e
    rw [atKey_del_other (fun x => e (kl_inj hw' hw x)), Maps.has_del_other (fun x => e (kl_inj hw' hw x))]
    exact h1 k' hw'
end Go.Proofs.YtekokdfajbajoaaDoor.Rbkey
