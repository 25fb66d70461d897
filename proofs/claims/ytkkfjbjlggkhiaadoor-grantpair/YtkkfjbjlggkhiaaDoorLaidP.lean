/-
  What a list of six sentinels gives (GrantPair's row), and that the program's own start lays it.
-/
import Derived.Test.YtkkfjbjlggkhiaaDoorRows
import Derived.Test.YtkkfjbjlggkhiaaDoorLaid
import Derived.Test.YtkkfjbjlggkhiaaDoorGrantP
namespace Go.Proofs.YtkkfjbjlggkhiaaDoor
open Go.ChangeShapes Go.WideShapes Go.ChangeAt Go.RowKit

def sixList : List (String × List UInt8) := Rows.grantPairRow.laid.map fun x => (x.1, textOf x.2)
theorem six_vars : sixList.map (fun x => Tryd.prog.globalNamed x.1) = sixVars.map some := by kernel_rfl
theorem six_types : ∀ g ∈ sixVars, (Tryd.prog.globals[g]?).map (·.type) = some 24 := by
  have h : (sixVars.all fun g => decide ((Tryd.prog.globals[g]?).map (·.type) = some 24)) = true := by kernel_rfl
  intro g hg
  exact of_decide_eq_true (List.all_eq_true.1 h g hg)
theorem six_met {W : World} (h : laidMetH Tryd.prog Rows.grantPairRow.laid W) : ∃ A, Sents 89 sixVars A W := by
  rw [MakeChecks.laidMetH_plain _ _ _ (by kernel_rfl)] at h
  have e : Rows.grantPairRow.laid = sixList.map (sentRow sentType) := by kernel_rfl
  rw [e] at h
  exact sents_of_laid Tryd.underlying24 sent_row Tryd.underlying89 Tryd.underlying113 rfl rfl Tryd.underlying9 cells_es cells_str sixList sixVars six_vars six_types h
theorem six_door (os : Os) (args : Array Value) : laidMetH Tryd.prog Rows.grantPairRow.laid ((World.doorLaid Tryd.prog 807 os).forCall (fun _ _ => 0) ⟨#[], args, []⟩).memory :=
  laidMetH_of_parts3 (fuel := 8) (laidMet_of_run' 8 (by kernel_rfl) (by kernel_rfl)) (by kernel_rfl) (by kernel_rfl)
end Go.Proofs.YtkkfjbjlggkhiaaDoor
