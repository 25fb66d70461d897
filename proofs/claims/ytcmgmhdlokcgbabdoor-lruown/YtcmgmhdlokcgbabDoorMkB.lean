/-
  make of bytes as a row of one's own (as in OutE)
-/
import Derived.Test.YtcmgmhdlokcgbabDoorRowBO
import Derived.Test.YtcmgmhdlokcgbabDoorRdOw
import Derived.Laws.MakeOwn
import Derived.Test.YtcmgmhdlokcgbabDoorBase
namespace Go.Proofs.YtcmgmhdlokcgbabDoor
open Go.RowKit

theorem wpList_make0 {P : Program} {w : World} {ops : Array Oper} {rest : List Oper} {o : Oper} {a : Act} {Q : Exit → Act → World → Prop} (hg : o.guard = none) (c : Operand) (t : TypeId) (hop : o.op = Op.makeSlice t (.const (.int .i64 0)) c)
    (n : Nat) (hc : a.eval c = .int .i64 n) (w' : World) (v : Value) (hr : (Instr.makeSlice t (.int .i64 0) (.int .i64 n)).run P w = .ok v w')
    (hK : wpList P ops Q rest (a.put o.dst v) w') : wpList P ops Q (o :: rest) a w := by
  refine wpList_plain hg fun K hK' => ?_
  have hl : a.eval (.const (.int .i64 0)) = .int .i64 0 := rfl
  unfold Oper.wp
  simp [execOp, hop, hl, hc, hr, Result.andThen]
  exact hK' _ _ hK
theorem RowB.rdO {own : Nat → Nat} {w : World} {o : Nat} {v : Value} {ns : List Int} (h : RowB own o w v ns) : RdO own o w v ns := ⟨h.rd, fun g hg => ⟨owns_lt h.1 g hg, h.2 g hg⟩⟩
end Go.Proofs.YtcmgmhdlokcgbabDoor
