/-
  What a list of four sentinels gives (GrantSum's row), and that the program's own start lays it.
-/
import Derived.Test.YtkkfjbjlggkhiaaDoorRows
import Derived.Test.YtkkfjbjlggkhiaaDoorLaid
import Derived.Test.YtkkfjbjlggkhiaaDoorGrantA
namespace Go.Proofs.YtkkfjbjlggkhiaaDoor
open Go.ChangeShapes Go.WideShapes Go.ChangeAt Go.RowKit

def fourList : List (String × List UInt8) := Rows.grantSumRow.laid.map fun x => (x.1, textOf x.2)
theorem four_vars : fourList.map (fun x => Tryd.prog.globalNamed x.1) = fourVars.map some := by kernel_rfl
theorem four_types : ∀ g ∈ fourVars, (Tryd.prog.globals[g]?).map (·.type) = some 24 := by
  have h : (fourVars.all fun g => decide ((Tryd.prog.globals[g]?).map (·.type) = some 24)) = true := by kernel_rfl
  intro g hg
  exact of_decide_eq_true (List.all_eq_true.1 h g hg)
theorem four_met {W : World} (h : laidMetH Tryd.prog Rows.grantSumRow.laid W) : ∃ A, Sents 89 fourVars A W := by
  rw [MakeChecks.laidMetH_plain _ _ _ (by kernel_rfl)] at h
  have e : Rows.grantSumRow.laid = fourList.map (sentRow sentType) := by kernel_rfl
  rw [e] at h
  exact sents_of_laid Tryd.underlying24 sent_row Tryd.underlying89 Tryd.underlying113 rfl rfl Tryd.underlying9 cells_es cells_str fourList fourVars four_vars four_types h
theorem four_door (os : Os) (args : Array Value) : laidMetH Tryd.prog Rows.grantSumRow.laid ((World.doorLaid Tryd.prog 807 os).forCall (fun _ _ => 0) ⟨#[], args, []⟩).memory :=
  laidMetH_of_parts3 (fuel := 8) (laidMet_of_run' 8 (by kernel_rfl) (by kernel_rfl)) (by kernel_rfl) (by kernel_rfl)
end Go.Proofs.YtkkfjbjlggkhiaaDoor
