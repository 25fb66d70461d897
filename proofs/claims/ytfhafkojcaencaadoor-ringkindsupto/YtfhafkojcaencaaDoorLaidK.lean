/-
  What RingKinds' list (two tables of bits, the powers of ten, ErrRange) gives, and that the program's own start lays it.
-/
import Derived.Test.YtfhafkojcaencaaDoorRows
import Derived.Test.YtfhafkojcaencaaDoorKindsB
import Derived.Test.YtfhafkojcaencaaDoorTabs
import Derived.ProofKit
import Derived.LaidMore
import Derived.OpenShut
import Derived.Stop.Joined
import Derived.MakeChecks
namespace Go.Proofs.YtfhafkojcaencaaDoor
open Go.ChangeShapes Go.WideShapes Go.ChangeAt Go.RowKit

theorem own : ownKnob Tryd.prog.godebug = none := by kernel_rfl
theorem laidOut : laidOutB Tryd.prog = true := by kernel_rfl
def nmOf : DataW Unit → String
  | .iface n _ => n
  | _ => ""
def textOf : DataW Unit → List UInt8
  | .iface _ (.ptr (.agg [.lit (.string t)])) => t
  | _ => []
def sentType : String := nmOf Rows.laid_culvert_api_ErrRange
theorem sent_row (u : TypeId) (h : Tryd.prog.typeName? 3 u = some sentType) : u = 74 :=
  typeName_ptr_named (nm := "errors.errorString") (by kernel_rfl) (by kernel_rfl) (by decide) u h
theorem cells_es : Tryd.prog.cellsOf 90 = 1 := by kernel_rfl
theorem cells_str : Tryd.prog.cellsOf 9 = 1 := by kernel_rfl
def oneVars : List Nat := [0]
def oneList : List (String × List UInt8) := (Rows.ringKindsRow.laid.drop 3).map fun x => (x.1, textOf x.2)
theorem one_vars : oneList.map (fun x => Tryd.prog.globalNamed x.1) = oneVars.map some := by kernel_rfl
theorem one_types : ∀ g ∈ oneVars, (Tryd.prog.globals[g]?).map (·.type) = some 26 := by
  have h : (oneVars.all fun g => decide ((Tryd.prog.globals[g]?).map (·.type) = some 26)) = true := by kernel_rfl
  intro g hg
  exact of_decide_eq_true (List.all_eq_true.1 h g hg)
theorem metK {W : World} (h : laidMetH Tryd.prog Rows.ringKindsRow.laid W) : ∃ A, KLaid A W := by
  rw [MakeChecks.laidMetH_plain _ _ _ (by kernel_rfl)] at h
  have e : Rows.ringKindsRow.laid = [("math/bits.deBruijn32tab", Rows.laid_math_bits_deBruijn32tab), ("math/bits.deBruijn64tab", Rows.laid_math_bits_deBruijn64tab)] ++ ([("internal/strconv.uint64pow10", Rows.laid_internal_strconv_uint64pow10)] ++ oneList.map (sentRow sentType)) := by kernel_rfl
  rw [e] at h
  have r1 := laidMet_right h
  have r2 := laidMet_right r1
  have p1 : PowT W := Lib.tabIs_of_head (rest := []) (g := 1) (t := 65) (e := 58) (n := 20) (by kernel_rfl) (by kernel_rfl) Tryd.underlying65 Tryd.underlying58 (by kernel_rfl) (by kernel_rfl) (laidMet_left r1)
  obtain ⟨A, hs⟩ := sents_of_laid Tryd.underlying26 sent_row Tryd.underlying74 Tryd.underlying90 rfl rfl Tryd.underlying9 cells_es cells_str oneList oneVars one_vars one_types r2
  exact ⟨A, hs.cell 0 0 rfl, p1⟩
theorem doorK (os : Os) (args : Array Value) : laidMetH Tryd.prog Rows.ringKindsRow.laid ((World.doorLaid Tryd.prog 43 os).forCall (fun _ _ => 0) ⟨#[], args, []⟩).memory :=
  laidMetH_of_parts3 (fuel := 8) (laidMet_of_run' 8 (by kernel_rfl) (by kernel_rfl)) (by kernel_rfl) (by kernel_rfl)
end Go.Proofs.YtfhafkojcaencaaDoor
