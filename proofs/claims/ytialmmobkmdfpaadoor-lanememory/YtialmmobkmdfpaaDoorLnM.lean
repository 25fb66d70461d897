/-
  package lane: the table of single tickets (a map from kind and stream to a ticket's box)
-/
import Derived.Test.YtialmmobkmdfpaaDoorProg
import Derived.Test.YtialmmobkmdfpaaDoorLnP
import Derived.Maps.OwnSet
import Derived.Maps.OwnOps
import Derived.DeepKeys4
import Derived.MapViews
namespace Go.Proofs.YtialmmobkmdfpaaDoor
open Go.RowKit Go.Maps

abbrev kv (k : Int) (s : Nat) : Value := .agg #[.int .i64 k, .int .u32 s]
def kl (k : Int) (s : Nat) : Lit := .string (keyBytes [.int .i64 k, .int .u32 s])

theorem laidOutB_ : laidOutB Tryd.prog = true := by kernel_rfl
theorem row_whose : (83 : TypeId) < Tryd.prog.types.size := of_decide_eq_true (by kernel_rfl)
theorem deep_whose : Tryd.prog.keyTypeAt (Tryd.prog.types.size + 1) 83 = true := by kernel_rfl
theorem wide_whose : (match Tryd.prog.underlying 83 with | some (.array _ _) | some (.struct _) => true | _ => false) = true := by rw [Tryd.underlying83]
theorem deep3_whose : Tryd.prog.keyTypeAt 3 83 = true := by kernel_rfl
set_option maxRecDepth 20000 in
theorem law_whose : WideMaps.KeyLaw Tryd.prog 83 := deep_law_laid (m := 3) laidOutB_ (by decide) row_whose deep3_whose wide_whose
theorem keyed_whose : Keyed Tryd.prog 83 := Keyed.of_law law_whose
theorem cells_whose : Tryd.prog.cellsOf 83 = 2 := by kernel_rfl
theorem cells_kind : Tryd.prog.cellsOf 27 = 1 := by kernel_rfl
theorem cells_u32 : Tryd.prog.cellsOf 28 = 1 := by kernel_rfl

theorem succ_of_lt {n m : Nat} (h : n < m) : ∃ d, m = d + 1 := ⟨m - 1, by omega⟩
theorem keyOf_kv {k : Int} {s : Nat} (h : Wd k s) : keyOf Tryd.prog 83 (kv k s) = some (kl k s) := by
  have hf : (kv k s).formed Tryd.prog 83 = true := by simp [Value.formed, Tryd.underlying83, cells_whose]
  have wk : (Lit.int .i64 k).wf = true := by
    have h1 : IntKind.min .i64 = -9223372036854775808 := by decide
    have h2 : IntKind.max .i64 = 9223372036854775807 := by decide
    simp only [Lit.wf, h1, h2, Bool.and_eq_true, decide_eq_true_eq]
    exact h.1
  have ws : (Lit.int .u32 (s : Int)).wf = true := by
    have h1 : IntKind.min .u32 = 0 := by decide
    have h2 : IntKind.max .u32 = 4294967295 := by decide
    simp only [Lit.wf, h1, h2, Bool.and_eq_true, decide_eq_true_eq]
    have := h.2
    omega
  have hd : Tryd.prog.keyType 83 = true := deep_whose
  obtain ⟨d, hsz⟩ : ∃ d, Tryd.prog.types.size = d + 1 := succ_of_lt row_whose
  have hl : Tryd.prog.keyLits (Tryd.prog.types.size + 1) 83 [.int .i64 k, .int .u32 s] = some [.int .i64 k, .int .u32 s] := by
    rw [hsz]
    unfold Program.keyLits
    simp only [Tryd.underlying83, cells_whose]
    rw [if_pos ⟨rfl, by simp⟩]
    simp only [List.mapM_cons, List.mapM_nil, Program.keyLits, Tryd.underlying27, Tryd.underlying28, cells_kind, cells_u32]
    simp [wk, ws]
  unfold keyOf
  simp only [Tryd.underlying83, hd, hf, Bool.and_self, if_true]
  show (Tryd.prog.keyLits (Tryd.prog.types.size + 1) 83 [.int .i64 k, .int .u32 s]).map (fun ls => Lit.string (keyBytes ls)) = some (kl k s)
  rw [hl]
  rfl

theorem kl_inj {k k' : Int} {s s' : Nat} (h : Wd k s) (h' : Wd k' s') (e : kl k s = kl k' s') : k = k' ∧ s = s' := by
  have h1 := keyOf_kv h
  rw [e] at h1
  have := keyed_whose.inj h1 (keyOf_kv h')
  simp only [kv, Value.agg.injEq, Array.mk.injEq, List.cons.injEq, Value.int.injEq, true_and, and_true] at this
  exact ⟨this.1, by have := this.2; omega⟩

def Rp (v : Value) : Option (DataW Unit × List MemPlace) := match v with
  | .pointer none => some (.nil, [])
  | .pointer (some ⟨b, 0, none⟩) => some (.lit (.int .i64 b), [])
  | _ => none
def dF : Option Nat → DataW Unit
  | none => .nil
  | some b => .lit (.int .i64 b)
def vF : Option Nat → Value
  | none => .pointer none
  | some b => ptr b
theorem rp_inv {v : Value} {o : Option Nat} {ps : List MemPlace} (h : Rp v = some (dF o, ps)) : v = vF o := by
  unfold Rp at h
  split at h
  · cases o with
    | none => rfl
    | some b => simp [dF] at h
  · cases o with
    | none => simp [dF] at h
    | some b =>
      simp only [dF, Option.some.injEq, Prod.mk.injEq, DataW.lit.injEq, Lit.int.injEq, true_and] at h
      have : _ = b := Int.ofNat.inj h.1
      subst this
      rfl
  · cases h

def MapF (w : World) (mb n : Nat) (F : Int → Nat → Option Nat) : Prop :=
  ∃ D, w.ownsMap Tryd.prog 83 Rp mb n D ∧ ∀ k s, Wd k s → D.atKey (kl k s) .nil = dF (F k s)

variable {w w' : World} {mb n : Nat} {F : Int → Nat → Option Nat} {k : Int} {s : Nat}

theorem MapF.lt (h : MapF w mb n F) : mb < w.heap.size := by obtain ⟨D, h, _⟩ := h; exact h.lt
theorem MapF.mono (h : MapF w mb n F) {n' : Nat} (hn : n ≤ n') : MapF w mb n' F := by obtain ⟨D, h, h1⟩ := h; exact ⟨D, h.mono hn, h1⟩
theorem MapF.later {S : Nat → Prop} (h : MapF w mb n F) (hk : Keeps S w w') (hn : ¬ S mb) : MapF w' mb n F := by
  have hlt := h.lt
  obtain ⟨D, ⟨es, clock, hb, F', hs, hD⟩, h1⟩ := h
  exact ⟨D, ⟨es, clock, (hk.block mb hlt hn).trans hb, F', hs, hD⟩, h1⟩
theorem MapF.made (w : World) : MapF (w.alloc (.map #[] 0)) w.heap.size 0 (fun _ _ => none) :=
  ⟨_, World.ownsMap_made w _ _ _, fun _ _ _ => rfl⟩
theorem zero_ptr (w : World) : (zeroValue 69).run Tryd.prog w = .ok (.pointer none) w := by kernel_rfl
theorem MapF.look (h : MapF w mb n F) (hw : Wd k s) : (Instr.lookup 70 (.map (some mb)) (kv k s) false).run Tryd.prog w = .ok (vF (F k s)) w := by
  obtain ⟨D, h, h1⟩ := h
  obtain ⟨v, ps, hrun, hv⟩ := h.lookup keyed_whose Tryd.underlying70 (zero_ptr w) (zd := .nil) (zp := []) rfl (keyOf_kv hw)
  rw [h1 k s hw] at hv
  rw [hrun, rp_inv hv]
theorem keeps_of_grown {b : Nat} (hg : w.grownBy w' (some b)) : Keeps (fun k => k = b) w w' := ⟨hg.os, hg.tape, hg.output, hg.size, fun k hk hn => hg.block k hk (fun e => hn (by injection e))⟩
theorem MapF.store (h : MapF w mb n F) (hn : n < maxLen) (hw : Wd k s) (b : Nat) : ∃ w', (Instr.mapUpdate 70 (.map (some mb)) (kv k s) (ptr b)).run Tryd.prog w = .ok () w' ∧ MapF w' mb (n + 1) (setF F k s (some b)) ∧ Keeps (fun x => x = mb) w w' := by
  obtain ⟨D, h, h1⟩ := h
  obtain ⟨w', hrun, ho, hg⟩ := h.update keyed_whose Tryd.underlying70 hn (keyOf_kv hw) (val := ptr b) (d := .lit (.int .i64 b)) (ps := []) rfl
  refine ⟨w', hrun, ⟨_, ho, fun k' s' hw' => ?_⟩, keeps_of_grown hg⟩
  unfold setF
  split
  · rename_i e
    obtain ⟨rfl, rfl⟩ := e
    exact atKey_put_same h.isMap (keyed_whose.key (keyOf_kv hw)) _ _
  · rename_i e
    rw [atKey_put_other (fun x => e (kl_inj hw' hw x)), h1 k' s' hw']
theorem MapF.drop (h : MapF w mb n F) (hw : Wd k s) : ∃ w', (∀ ty, (Builtin.delete_ #[70, 83] ty #[.map (some mb), kv k s]).run Tryd.prog w = .ok (.tuple #[]) w') ∧ MapF w' mb n (setF F k s none) ∧ Keeps (fun x => x = mb) w w' := by
  obtain ⟨D, h, h1⟩ := h
  obtain ⟨w', hrun, ho, ht⟩ := h.drop keyed_whose Tryd.underlying70 (keyOf_kv hw) 0
  refine ⟨w', fun ty => hrun, ⟨_, ho, fun k' s' hw' => ?_⟩, keeps_of_grown ht.grown⟩
  unfold setF
  split
  · rename_i e
    obtain ⟨rfl, rfl⟩ := e
    exact atKey_del_same _
  · rename_i e
    rw [atKey_del_other (fun x => e (kl_inj hw' hw x)), h1 k' s' hw']
end Go.Proofs.YtialmmobkmdfpaaDoor
