/-
  make of bytes as a row of one's own (as in OutE)
-/
import Derived.Test.YtbbldkldgjmmgaaGreatDoorSma
import Derived.Laws.MakeOwn
import Derived.Test.YtbbldkldgjmmgaaGreatDoorBase
namespace Go.Proofs.YtbbldkldgjmmgaaGreatDoor
open Go.RowKit

theorem wpList_make0 {P : Program} {w : World} {ops : Array Oper} {rest : List Oper} {o : Oper} {a : Act} {Q : Exit → Act → World → Prop} (hg : o.guard = none) (c : Operand) (t : TypeId) (hop : o.op = Op.makeSlice t (.const (.int .i64 0)) c)
    (n : Nat) (hc : a.eval c = .int .i64 n) (w' : World) (v : Value) (hr : (Instr.makeSlice t (.int .i64 0) (.int .i64 n)).run P w = .ok v w')
    (hK : wpList P ops Q rest (a.put o.dst v) w') : wpList P ops Q (o :: rest) a w := by
  refine wpList_plain hg fun K hK' => ?_
  have hl : a.eval (.const (.int .i64 0)) = .int .i64 0 := rfl
  unfold Oper.wp
  simp [execOp, hop, hl, hc, hr, Result.andThen]
  exact hK' _ _ hK
theorem make_bytes (w : World) (n o : Nat) (own : Nat → Nat) (hn : n ≤ 140737488355328) : ∃ w' c, Aside ((Instr.makeSlice 32 (.int .i64 0) (.int .i64 n)).run Tryz.prog w = .ok (.slice (some ⟨w.heap.size, 0, none⟩) 0 c) w') ∧ Aside (RowB (give own w.heap.size o) o w' (.slice (some ⟨w.heap.size, 0, none⟩) 0 c) [] ∧ Keeps Nowhere w w') := by
  obtain ⟨i, hi, hz0, hz1, hz2⟩ := info_parts u8info
  have h := run_make (P := Tryz.prog) w 32 5 i _ Tryz.underlying32 hi hz0 .i64 .i64 0 n (by omega) (by omega) (by rw [hz2]; omega) (by omega)
  refine ⟨_, _, ⟨h⟩, ⟨⟨?_, fun b hb => ?_⟩, (Keeps.refl _ _).alloc _⟩⟩
  · exact World.ownsRow_made w _ _ (Nat.zero_le _) (by unfold maxLen; omega) (by simp [madeCells, hz1])
  · simp only [Value.ownBlock, Option.some.injEq] at hb
    subst hb
    exact give_new (Nat.le_refl _)
theorem RowB.rdO {own : Nat → Nat} {w : World} {o : Nat} {v : Value} {ns : List Int} (h : RowB own o w v ns) : RdO own o w v ns := ⟨h.rd, fun g hg => ⟨owns_lt h.1 g hg, h.2 g hg⟩⟩
end Go.Proofs.YtbbldkldgjmmgaaGreatDoor
