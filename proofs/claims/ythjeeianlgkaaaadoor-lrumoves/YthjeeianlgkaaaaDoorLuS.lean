/-
  a map from numbers to numbers
-/
import Derived.Test.YthjeeianlgkaaaaDoorLuMlnn
import Derived.Test.YthjeeianlgkaaaaDoorChecked
namespace Go.Proofs.YthjeeianlgkaaaaDoor
open Go.RowKit Go.Maps

def RpN (v : Value) : Option (DataW Unit × List MemPlace) := match v with
  | .int .i64 n => some (.lit (.int .i64 n), [])
  | _ => none
theorem rpN_inv {v : Value} {n : Int} {ps : List MemPlace} (h : RpN v = some (.lit (.int .i64 n), ps)) : v = .int .i64 n := by
  unfold RpN at h
  split at h
  · simp only [Option.some.injEq, Prod.mk.injEq, DataW.lit.injEq, Lit.int.injEq, true_and] at h
    rw [h.1]
  · cases h
def zN : DataW Unit := .lit (.int .i64 0)
def MapN (w : World) (mb n : Nat) (F : Int → Int) : Prop :=
  ∃ D, w.ownsMap Tryd.prog 3 RpN mb n D ∧ ∀ k, I6 k → D.atKey (Lulnn.kl k) zN = .lit (.int .i64 (F k))
variable {w w' : World} {mb n : Nat} {F : Int → Int} {k v : Int}
theorem MapN.lt (h : MapN w mb n F) : mb < w.heap.size := by obtain ⟨D, h, _⟩ := h; exact h.lt
theorem MapN.isMap (h : MapN w mb n F) : ∃ es clock, w.heap[mb]? = some (.map es clock) := by obtain ⟨D, ⟨es, clock, hb, _⟩, _⟩ := h; exact ⟨es, clock, hb⟩
theorem MapN.later {S : Nat → Prop} (h : MapN w mb n F) (hk : Keeps S w w') (hn : ¬ S mb) : MapN w' mb n F := by
  have hlt := h.lt
  obtain ⟨D, ⟨es, clock, hb, F', hs, hD⟩, h1⟩ := h
  exact ⟨D, ⟨es, clock, (hk.block mb hlt hn).trans hb, F', hs, hD⟩, h1⟩
theorem MapN.made (w : World) : MapN (w.alloc (.map #[] 0)) w.heap.size 0 (fun _ => 0) :=
  ⟨_, World.ownsMap_made w _ _ _, fun _ _ => rfl⟩
theorem zero_n (w : World) : (zeroValue 3).run Tryd.prog w = .ok (.int .i64 0) w := by kernel_rfl
theorem MapN.look (h : MapN w mb n F) (hw : I6 k) : (Instr.lookup 30 (.map (some mb)) (.int .i64 k) false).run Tryd.prog w = .ok (.int .i64 (F k)) w := by
  obtain ⟨D, h, h1⟩ := h
  obtain ⟨v, ps, hrun, hv⟩ := h.lookup Lulnn.keyed_ Tryd.underlying30 (zero_n w) (zd := zN) (zp := []) rfl (Lulnn.keyOf_kv hw)
  rw [h1 k hw] at hv
  rw [hrun, rpN_inv hv]
theorem MapN.store (h : MapN w mb n F) (hn : n < maxLen) (hw : I6 k) (v : Int) : ∃ w', (Instr.mapUpdate 30 (.map (some mb)) (.int .i64 k) (.int .i64 v)).run Tryd.prog w = .ok () w' ∧ MapN w' mb (n + 1) (fun k' => if k' = k then v else F k') ∧ Keeps (fun x => x = mb) w w' := by
  obtain ⟨D, h, h1⟩ := h
  obtain ⟨w', hrun, ho, hg⟩ := h.update Lulnn.keyed_ Tryd.underlying30 hn (Lulnn.keyOf_kv hw) (val := .int .i64 v) (d := .lit (.int .i64 v)) (ps := []) rfl
  refine ⟨w', hrun, ⟨_, ho, fun k' hw' => ?_⟩, Lulnn.keeps_of_grown hg⟩
  show _ = DataW.lit (.int .i64 (if k' = k then v else F k'))
  by_cases e : k' = k
  · subst e
    rw [if_pos rfl]
    exact atKey_put_same h.isMap (Lulnn.keyed_.key (Lulnn.keyOf_kv hw)) _ _
  · rw [if_neg e, atKey_put_other (fun x => e (Lulnn.kl_inj hw' hw x))]
    exact h1 k' hw'
end Go.Proofs.YthjeeianlgkaaaaDoor
