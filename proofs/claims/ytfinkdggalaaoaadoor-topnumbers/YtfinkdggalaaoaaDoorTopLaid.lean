/-
  What TopNumbers' list of three sentinels gives, and that the program's own start lays it.
-/
import Derived.Test.YtfinkdggalaaoaaDoorRows
import Derived.Test.YtfinkdggalaaoaaDoorLaid
import Derived.Test.YtfinkdggalaaoaaDoorTopNumbers
import Derived.ProofKit
import Derived.LaidMore
import Derived.OpenShut
import Derived.Stop.Joined
import Derived.MakeChecks
namespace Go.Proofs.YtfinkdggalaaoaaDoor
open Go.ChangeShapes Go.WideShapes Go.ChangeAt Go.RowKit

def topList : List (String × List UInt8) := Rows.topNumbersRow.laid.map fun x => (x.1, textOf x.2)
theorem top_vars : topList.map (fun x => Tryd.prog.globalNamed x.1) = topVars.map some := by kernel_rfl
theorem top_types : ∀ g ∈ topVars, (Tryd.prog.globals[g]?).map (·.type) = some 31 := by
  have h : (topVars.all fun g => decide ((Tryd.prog.globals[g]?).map (·.type) = some 31)) = true := by kernel_rfl
  intro g hg
  exact of_decide_eq_true (List.all_eq_true.1 h g hg)
theorem top_met {W : World} (h : laidMetH Tryd.prog Rows.topNumbersRow.laid W) : ∃ A, Sents 74 topVars A W := by
  rw [MakeChecks.laidMetH_plain _ _ _ (by kernel_rfl)] at h
  have e : Rows.topNumbersRow.laid = topList.map (sentRow sentType) := by kernel_rfl
  rw [e] at h
  exact sents_of_laid Tryd.underlying31 sent_row Tryd.underlying74 Tryd.underlying99 rfl rfl Tryd.underlying9 cells_es cells_str topList topVars top_vars top_types h
theorem top_door (os : Os) (args : Array Value) : laidMetH Tryd.prog Rows.topNumbersRow.laid ((World.doorLaid Tryd.prog 807 os).forCall (fun _ _ => 0) ⟨#[], args, []⟩).memory :=
  laidMetH_of_parts3 (fuel := 8) (laidMet_of_run' 8 (by kernel_rfl) (by kernel_rfl)) (by kernel_rfl) (by kernel_rfl)

end Go.Proofs.YtfinkdggalaaoaaDoor
