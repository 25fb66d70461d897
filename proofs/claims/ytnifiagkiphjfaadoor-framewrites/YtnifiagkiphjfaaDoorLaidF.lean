/-
  What the rows' list (the 42 sentinels and the table of lawful flags) gives, and that the program's own start lays it.
-/
import Derived.Test.YtnifiagkiphjfaaDoorRows
import Derived.Test.YtnifiagkiphjfaaDoorFrameE
import Derived.ProofKit
import Derived.LaidMore
import Derived.OpenShut
import Derived.Stop.Joined
import Derived.MakeChecks
namespace Go.Proofs.YtnifiagkiphjfaaDoor
open Go.ChangeShapes Go.WideShapes Go.ChangeAt Go.RowKit

theorem own : ownKnob Tryd.prog.godebug = none := by kernel_rfl
theorem laidOut : laidOutB Tryd.prog = true := by kernel_rfl
/-- the name of the sentinels' type, and each one's text, off the given row itself -/
def nmOf : DataW Unit → String
  | .iface n _ => n
  | _ => ""
def textOf : DataW Unit → List UInt8
  | .iface _ (.ptr (.agg [.lit (.string t)])) => t
  | _ => []
def sentType : String := nmOf Rows.laid_culvert_api_ErrNil
def sentList : List (String × List UInt8) := (Rows.frameChecksRow.laid.take 42).map fun x => (x.1, textOf x.2)
theorem sent_row (u : TypeId) (h : Tryd.prog.typeName? 3 u = some sentType) : u = 123 :=
  typeName_ptr_named (nm := "errors.errorString") (by kernel_rfl) (by kernel_rfl) (by decide) u h
theorem sent_vars : sentList.map (fun x => Tryd.prog.globalNamed x.1) = codeVars.map some := by kernel_rfl
theorem sent_types : ∀ g ∈ codeVars, (Tryd.prog.globals[g]?).map (·.type) = some 28 := by
  have h : (codeVars.all fun g => decide ((Tryd.prog.globals[g]?).map (·.type) = some 28)) = true := by kernel_rfl
  intro g hg
  exact of_decide_eq_true (List.all_eq_true.1 h g hg)
theorem cells_es : Tryd.prog.cellsOf 146 = 1 := by kernel_rfl
theorem cells_str : Tryd.prog.cellsOf 9 = 1 := by kernel_rfl
theorem lawful_met {W : World} (h : laidMet Tryd.prog [("culvert/frame.lawful", Rows.laid_culvert_frame_lawful)] W) : Lawful W := by
  have hd : Rows.laid_culvert_frame_lawful = (.agg (lawfulTab.map fun l => .agg (l.map fun b => .lit (.bool b))) : DataW Unit) := rfl
  rw [hd] at h
  have := bools_of_laid (P := Tryd.prog) (W := W) (name := "culvert/frame.lawful") (g := 6) (t := 74) (e := 73) (n := 4) (k := 16) (tb := 4) (T := lawfulTab) (ds := lawfulTab.map fun l => .agg (l.map fun b => .lit (.bool b)))
    (by kernel_rfl) (by kernel_rfl) Tryd.underlying74 Tryd.underlying73 Tryd.underlying4 (by kernel_rfl) (by kernel_rfl) rfl (by decide) h
  intro i j hi hj
  exact this i j hi hj
theorem met4 {W : World} (h : laidMetH Tryd.prog Rows.frameChecksRow.laid W) : ∃ A, At4 A W W := by
  rw [MakeChecks.laidMetH_plain _ _ _ (by kernel_rfl)] at h
  have e : Rows.frameChecksRow.laid = sentList.map (sentRow sentType) ++ [("culvert/frame.lawful", Rows.laid_culvert_frame_lawful)] := by kernel_rfl
  rw [e] at h
  obtain ⟨A, hs⟩ := sents_of_laid Tryd.underlying28 sent_row Tryd.underlying123 Tryd.underlying146 rfl rfl Tryd.underlying9 cells_es cells_str sentList codeVars sent_vars sent_types (laidMet_left h)
  exact ⟨A, hs, lawful_met (laidMet_right h), Below.refl _ _⟩
theorem door4 (os : Os) (args : Array Value) : laidMetH Tryd.prog Rows.frameChecksRow.laid ((World.doorLaid Tryd.prog 845 os).forCall (fun _ _ => 0) ⟨#[], args, []⟩).memory :=
  laidMetH_of_parts3 (fuel := 8) (laidMet_of_run' 8 (by kernel_rfl) (by kernel_rfl)) (by kernel_rfl) (by kernel_rfl)
end Go.Proofs.YtnifiagkiphjfaaDoor
