/-
  What a list of one sentinel (ErrRange) gives, and that the program's own start lays it.
-/
import Derived.Test.YtmcnggkfejfjoaaDoorRows
import Derived.Test.YtmcnggkfejfjoaaDoorLaid
import Derived.Test.YtmcnggkfejfjoaaDoorSents
import Derived.ProofKit
import Derived.LaidMore
import Derived.OpenShut
import Derived.Stop.Joined
import Derived.MakeChecks
namespace Go.Proofs.YtmcnggkfejfjoaaDoor
open Go.ChangeShapes Go.WideShapes Go.ChangeAt Go.RowKit

def oneVars : List Nat := [0]
def oneList : List (String × List UInt8) := Rows.ringBlindRow.laid.map fun x => (x.1, textOf x.2)
theorem one_vars : oneList.map (fun x => Tryd.prog.globalNamed x.1) = oneVars.map some := by kernel_rfl
theorem one_types : ∀ g ∈ oneVars, (Tryd.prog.globals[g]?).map (·.type) = some 24 := by
  have h : (oneVars.all fun g => decide ((Tryd.prog.globals[g]?).map (·.type) = some 24)) = true := by kernel_rfl
  intro g hg
  exact of_decide_eq_true (List.all_eq_true.1 h g hg)
theorem one_met {W : World} (h : laidMetH Tryd.prog Rows.ringBlindRow.laid W) : ∃ A, Sents 127 oneVars A W := by
  rw [MakeChecks.laidMetH_plain _ _ _ (by kernel_rfl)] at h
  have e : Rows.ringBlindRow.laid = oneList.map (sentRow sentType) := by kernel_rfl
  rw [e] at h
  exact sents_of_laid Tryd.underlying24 sent_row Tryd.underlying127 Tryd.underlying152 rfl rfl Tryd.underlying9 cells_es cells_str oneList oneVars one_vars one_types h
theorem one_door (os : Os) (args : Array Value) : laidMetH Tryd.prog Rows.ringBlindRow.laid ((World.doorLaid Tryd.prog 822 os).forCall (fun _ _ => 0) ⟨#[], args, []⟩).memory :=
  laidMetH_of_parts3 (fuel := 8) (laidMet_of_run' 8 (by kernel_rfl) (by kernel_rfl)) (by kernel_rfl) (by kernel_rfl)

end Go.Proofs.YtmcnggkfejfjoaaDoor
