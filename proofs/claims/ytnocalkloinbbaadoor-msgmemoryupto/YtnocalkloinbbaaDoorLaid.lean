/-
  What the rows' list of the 42 sentinels gives, and that the program's own start lays it.
-/
import Derived.Test.YtnocalkloinbbaaDoorRows
import Derived.Test.YtnocalkloinbbaaDoorSentinel
import Derived.ProofKit
import Derived.LaidMore
import Derived.OpenShut
import Derived.Stop.Joined
import Derived.MakeChecks
namespace Go.Proofs.YtnocalkloinbbaaDoor
open Go.ChangeShapes Go.WideShapes Go.ChangeAt Go.RowKit

theorem own : ownKnob Tryd.prog.godebug = none := by kernel_rfl
theorem laidOut : laidOutB Tryd.prog = true := by kernel_rfl
/-- the name of the sentinels' type, and each one's text, off the given row itself -/
def nmOf : DataW Unit → String
  | .iface n _ => n
  | _ => ""
def textOf : DataW Unit → List UInt8
  | .iface _ (.ptr (.agg [.lit (.string t)])) => t
  | _ => []
def sentType : String := nmOf Rows.laid_culvert_api_ErrNil
def sentList : List (String × List UInt8) := Rows.msgMemoryRow.laid.map fun x => (x.1, textOf x.2)
theorem sent_row (u : TypeId) (h : Tryd.prog.typeName? 3 u = some sentType) : u = 74 :=
  typeName_ptr_named (nm := "errors.errorString") (by kernel_rfl) (by kernel_rfl) (by decide) u h
theorem sent_vars : sentList.map (fun x => Tryd.prog.globalNamed x.1) = codeVars.map some := by kernel_rfl
theorem sent_types : ∀ g ∈ codeVars, (Tryd.prog.globals[g]?).map (·.type) = some 26 := by
  have h : (codeVars.all fun g => decide ((Tryd.prog.globals[g]?).map (·.type) = some 26)) = true := by kernel_rfl
  intro g hg
  exact of_decide_eq_true (List.all_eq_true.1 h g hg)
theorem cells_es : Tryd.prog.cellsOf 99 = 1 := by kernel_rfl
theorem cells_str : Tryd.prog.cellsOf 9 = 1 := by kernel_rfl
theorem sents_met {W : World} (h : laidMetH Tryd.prog Rows.msgMemoryRow.laid W) : ∃ A, Sents 74 codeVars A W := by
  rw [MakeChecks.laidMetH_plain _ _ _ (by kernel_rfl)] at h
  have e : Rows.msgMemoryRow.laid = sentList.map (sentRow sentType) := by kernel_rfl
  rw [e] at h
  exact sents_of_laid Tryd.underlying26 sent_row Tryd.underlying74 Tryd.underlying99 rfl rfl Tryd.underlying9 cells_es cells_str sentList codeVars sent_vars sent_types h
theorem door_met (os : Os) (args : Array Value) : laidMetH Tryd.prog Rows.msgMemoryRow.laid ((World.doorLaid Tryd.prog 807 os).forCall (fun _ _ => 0) ⟨#[], args, []⟩).memory :=
  laidMetH_of_parts3 (fuel := 8) (laidMet_of_run' 8 (by kernel_rfl) (by kernel_rfl)) (by kernel_rfl) (by kernel_rfl)

/-- a slice of integers that came in -/
def IsRow (k : IntKind) (w : World) (a : Option Addr) (len cap : Nat) (zs : List Int) : Prop :=
  (a = none ∧ len = 0 ∧ cap = 0 ∧ zs = []) ∨
  ∃ x, a = some x ∧ len ≤ cap ∧ cap ≤ maxLen ∧ zs.length = cap ∧ (∀ i, i < zs.length → w.cell? (x.add i) = some (.int k (zs.getD i 0))) ∧ ∀ n ∈ zs, (Lit.int k n).wf = true
end Go.Proofs.YtnocalkloinbbaaDoor
