/-
  culvertlaw02's Step
-/
import Derived.Test.YtkmijhfimkcoiaaDoorRingStep1
import Derived.Test.YtkmijhfimkcoiaaDoorRingStep2
import Derived.Test.YtkmijhfimkcoiaaDoorRingStep3
import Derived.Test.YtkmijhfimkcoiaaDoorRingStep4
namespace Go.Proofs.YtkmijhfimkcoiaaDoor
open Go.RowKit Rint

variable {B : Nat} {X : Nat → TypeId → List Value → Prop} {w0 w w' : World} {p : Nat} {R : Nat → Value} {C : Nat → Nat} {L : Nat → List Int} {V : Nat → Value} {own : Nat → Nat}

theorem step_ok {A : Nat → Addr} (h : PlayAt B w0 X p R C L V own w) (hB : B = w0.heap.size) (hs : Sents 83 codeVars A w0) (op : OpV) (s : Value) (hr : ReadsOff Nowhere w0 s (iv op.items)) (hnil : NilOk s)
    (hsize : op.items.length * 8 ≤ 140737488351232) :
    Calls Tryd.prog 6 #[.pointer (some ⟨p, 0, none⟩), .agg #[.int .i64 op.kind, .int .i64 op.at', .int .i64 op.n, s]] w fun e w' =>
      e = .returned (.bool true) ∧ ∃ R' C' L' V' own', PlayAt B w0 X p R' C' L' V' own' w' := by
  by_cases q0 : op.kind = 0
  · exact step_k0 h hB hs op s hr hnil hsize q0
  by_cases q1 : op.kind = 1
  · exact step_k1 h hB hs op s hr hnil hsize q1
  by_cases q2 : op.kind = 2
  · exact step_k2 h hB hs op s hr hnil hsize q2
  by_cases q3 : op.kind = 3
  · exact step_k3 h hB hs op s hr hnil hsize q3
  by_cases q4 : op.kind = 4
  · exact step_k4 h hB hs op s hr hnil hsize q4
  by_cases q5 : op.kind = 5
  · exact step_k5 h hB hs op s hr hnil hsize q5
  by_cases q6 : op.kind = 6
  · exact step_k6 h hB hs op s hr hnil hsize q6
  · exact step_k7 h hB hs op s hr hnil hsize q0 q1 q2 q3 q4 q5 q6
end Go.Proofs.YtkmijhfimkcoiaaDoor
