/-
  FrameBack, walked.
-/
import Derived.Test.YtfpdllckpcjgdaaDoorFrameBk
import Derived.Test.YtfpdllckpcjgdaaDoorTextJ
import Derived.Test.YtfpdllckpcjgdaaDoorFrameE
import Derived.Test.YtfpdllckpcjgdaaDoorFrameD
import Derived.Test.YtfpdllckpcjgdaaDoorOpenF
import Derived.Deep.Cut
import Derived.Deep.RegionHeldLaw
import Derived.Deep.DeepCutAuto
import Derived.Laws.StructEq
import Derived.Laws.Concat
namespace Go.Proofs.YtfpdllckpcjgdaaDoor
open Go.RowKit

section
variable {A : Nat → Addr} {w w' w0 : World} {p p2 p3 : Nat} {v t f s l v2 t2 f2 s2 l2 v3 t3 f3 s3 l3 : Int} {d vb : Value} {ns bs : List Int}
/-- the frame's box, the other header's, what is in the arguments; h's box -/
structure Fk (A : Nat → Addr) (w0 : World) (p : Nat) (v t f s l : Int) (d : Value) (ns : List Int) (p2 : Nat) (v2 t2 f2 s2 l2 : Int) (vb : Value) (bs : List Int) (w : World) : Prop where
  sS : Sents 107 codeVars A w
  bB : Below w0.heap.size w0 w
  fF : FB p v t f s l d w
  oO : HB p2 v2 t2 f2 s2 l2 w
  rR : Rd w d ns
  rB : Rd w vb bs
  wW : Words w
theorem Fk.later (h : Aside (Fk A w0 p v t f s l d ns p2 v2 t2 f2 s2 l2 vb bs w)) (hb : Below w.heap.size w w') : Aside (Fk A w0 p v t f s l d ns p2 v2 t2 f2 s2 l2 vb bs w') :=
  ⟨⟨h.it.sS.later hb, h.it.bB.trans (hb.mono h.it.bB.size), h.it.fF.later hb, h.it.oO.later hb, h.it.rR.later hb, h.it.rB.later hb, h.it.wW.later hb⟩⟩
set_option maxRecDepth 100000 in
theorem hdr_eql (w : World) : (binOp .eql 25 (hdr v t f s l) (hdr v2 t2 f2 s2 l2)).run Tryd.prog w = .ok (.bool (decide (v = v2 ∧ t = t2 ∧ f = f2 ∧ s = s2 ∧ l = l2))) w := by
  have hst : Tryd.prog.stoodInHeld 25 = false := by kernel_rfl
  have hfo : Tryd.prog.underlying 25 = some (.struct (Tryd.prog.fieldsOf 25)) := by kernel_rfl
  have h := run_equalIn_agg (P := Tryd.prog) (w := w) 9999 25 #[.int .u8 v, .int .u8 t, .int .u16 f, .int .u32 s, .int .u32 l] #[.int .u8 v2, .int .u8 t2, .int .u16 f2, .int .u32 s2, .int .u32 l2] hfo hst
  rw [run_eql_struct, h]
  clear h hst hfo
  simp only [Program.fieldsOf, Tryd.underlying25]
  by_cases e0 : v = v2
  · by_cases e1 : t = t2
    · by_cases e2 : f = f2
      · by_cases e3 : s = s2
        · by_cases e4 : l = l2
          · simp [Op.eqFields, go_sem, e0, e1, e2, e3, e4]
          · simp [Op.eqFields, go_sem, e0, e1, e2, e3, e4]
        · simp [Op.eqFields, go_sem, e0, e1, e2, e3]
      · simp [Op.eqFields, go_sem, e0, e1, e2]
    · simp [Op.eqFields, go_sem, e0, e1]
  · simp [Op.eqFields, go_sem, e0]
end
end Go.Proofs.YtfpdllckpcjgdaaDoor
