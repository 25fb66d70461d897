/-
  What the rows' list (the 42 sentinels and the table of lawful flags) gives, and that the program's own start lays it.
-/
import Derived.Test.YtfpdllckpcjgdaaDoorRows
import Derived.Test.YtfpdllckpcjgdaaDoorFrameE
import Derived.ProofKit
import Derived.LaidMore
import Derived.OpenShut
import Derived.Stop.Joined
import Derived.MakeChecks
namespace Go.Proofs.YtfpdllckpcjgdaaDoor
open Go.ChangeShapes Go.WideShapes Go.ChangeAt Go.RowKit

theorem own : ownKnob Tryd.prog.godebug = none := by kernel_rfl
theorem laidOut : laidOutB Tryd.prog = true := by kernel_rfl
/-- the name of the sentinels' type, and each one's text, off the given row itself -/
def nmOf : DataW Unit → String
  | .iface n _ => n
  | _ => ""
def textOf : DataW Unit → List UInt8
  | .iface _ (.ptr (.agg [.lit (.string t)])) => t
  | _ => []
def sentType : String := nmOf Rows.laid_culvert_api_ErrNil
def sentList : List (String × List UInt8) := ((Rows.frameBackRow.laid.drop 3).take 42).map fun x => (x.1, textOf x.2)
theorem sent_row (u : TypeId) (h : Tryd.prog.typeName? 3 u = some sentType) : u = 107 :=
  typeName_ptr_named (nm := "errors.errorString") (by kernel_rfl) (by kernel_rfl) (by decide) u h
theorem sent_vars : sentList.map (fun x => Tryd.prog.globalNamed x.1) = codeVars.map some := by kernel_rfl
theorem sent_types : ∀ g ∈ codeVars, (Tryd.prog.globals[g]?).map (·.type) = some 31 := by
  have h : (codeVars.all fun g => decide ((Tryd.prog.globals[g]?).map (·.type) = some 31)) = true := by kernel_rfl
  intro g hg
  exact of_decide_eq_true (List.all_eq_true.1 h g hg)
theorem cells_es : Tryd.prog.cellsOf 130 = 1 := by kernel_rfl
theorem cells_str : Tryd.prog.cellsOf 9 = 1 := by kernel_rfl
theorem lawful_met {W : World} (h : laidMet Tryd.prog [("culvert/frame.lawful", Rows.laid_culvert_frame_lawful)] W) : Lawful W := by
  have hd : Rows.laid_culvert_frame_lawful = (.agg (lawfulTab.map fun l => .agg (l.map fun b => .lit (.bool b))) : DataW Unit) := rfl
  rw [hd] at h
  have := bools_of_laid (P := Tryd.prog) (W := W) (name := "culvert/frame.lawful") (g := 8) (t := 72) (e := 71) (n := 4) (k := 16) (tb := 4) (T := lawfulTab) (ds := lawfulTab.map fun l => .agg (l.map fun b => .lit (.bool b)))
    (by kernel_rfl) (by kernel_rfl) Tryd.underlying72 Tryd.underlying71 Tryd.underlying4 (by kernel_rfl) (by kernel_rfl) rfl (by decide) h
  intro i j hi hj
  exact this i j hi hj
end Go.Proofs.YtfpdllckpcjgdaaDoor
