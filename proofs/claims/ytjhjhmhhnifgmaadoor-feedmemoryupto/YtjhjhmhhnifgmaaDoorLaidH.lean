/-
  What the rows' list (the handle of 'error', the 42 sentinels, the table of lawful flags) gives, and that the program's own start lays it.
-/
import Derived.Test.YtjhjhmhhnifgmaaDoorRows
import Derived.Test.YtjhjhmhhnifgmaaDoorFeedC
import Derived.ProofKit
import Derived.LaidMore
import Derived.LaidHandle
import Derived.OpenShut
import Derived.Stop.Joined
import Derived.MakeChecks
namespace Go.Proofs.YtjhjhmhhnifgmaaDoor
open Go.ChangeShapes Go.WideShapes Go.ChangeAt Go.RowKit

theorem own : ownKnob Tryd.prog.godebug = none := by kernel_rfl
theorem laidOut : laidOutB Tryd.prog = true := by kernel_rfl
/-- the name of the sentinels' type, and each one's text, off the given row itself -/
def nmOfH : DataW Unit → String
  | .iface n _ => n
  | _ => ""
def textOfH : DataW Unit → List UInt8
  | .iface _ (.ptr (.agg [.lit (.string t)])) => t
  | _ => []
def sentTypeH : String := nmOfH Rows.laid_culvert_api_ErrNil
def sentListH : List (String × List UInt8) := ((Rows.feedMemoryRow.laid.drop 1).take 42).map fun x => (x.1, textOfH x.2)
theorem sent_rowH (u : TypeId) (h : Tryd.prog.typeName? 3 u = some sentTypeH) : u = 116 :=
  typeName_ptr_named (nm := "errors.errorString") (by kernel_rfl) (by kernel_rfl) (by decide) u h
theorem sent_varsH : sentListH.map (fun x => Tryd.prog.globalNamed x.1) = codeVars.map some := by kernel_rfl
theorem sent_typesH : ∀ g ∈ codeVars, (Tryd.prog.globals[g]?).map (·.type) = some 26 := by
  have h : (codeVars.all fun g => decide ((Tryd.prog.globals[g]?).map (·.type) = some 26)) = true := by kernel_rfl
  intro g hg
  exact of_decide_eq_true (List.all_eq_true.1 h g hg)
theorem cells_esH : Tryd.prog.cellsOf 136 = 1 := by kernel_rfl
theorem cells_strH : Tryd.prog.cellsOf 9 = 1 := by kernel_rfl
theorem lawful_metH {W : World} (h : laidMet Tryd.prog [("culvert/frame.lawful", Rows.laid_culvert_frame_lawful)] W) : Lawful W := by
  have hd : Rows.laid_culvert_frame_lawful = (.agg (lawfulTab.map fun l => .agg (l.map fun b => .lit (.bool b))) : DataW Unit) := rfl
  rw [hd] at h
  have := bools_of_laid (P := Tryd.prog) (W := W) (name := "culvert/frame.lawful") (g := 43) (t := 115) (e := 114) (n := 4) (k := 16) (tb := 4) (T := lawfulTab) (ds := lawfulTab.map fun l => .agg (l.map fun b => .lit (.bool b)))
    (by kernel_rfl) (by kernel_rfl) Tryd.underlying115 Tryd.underlying114 Tryd.underlying4 (by kernel_rfl) (by kernel_rfl) rfl (by decide) h
  intro i j hi hj
  exact this i j hi hj
theorem et_var : Tryd.prog.globalNamed "errors.errorType" = some 2 := by kernel_rfl
theorem rt_type : (Tryd.prog.cutTypes.find? (·.1 == "internal/reflectlite.rtype")).map (·.2) = some 99 := by kernel_rfl
theorem types_size : Tryd.prog.types.size = 147 := by kernel_rfl
theorem error_row : ((List.range 147).filter fun t => Tryd.prog.rowNamed t [101, 114, 114, 111, 114]) = [26] := by kernel_rfl
/-- the handle that the list tells of -/
theorem errTy_met {W : World} (h : handlesMet Tryd.prog [("errors.errorType", Rows.laid_errors_errorType)] W) : ErrTy W := by
  obtain ⟨name, u, ty, e1, e2, e3, e4, e5⟩ := h _ (List.mem_singleton.2 rfl)
  have en : name = [101, 114, 114, 111, 114] := (Option.some.inj e1).symm
  subst en
  obtain rfl := Option.some.inj (rt_type.symm.trans e2)
  have hm : ty ∈ (List.range 147).filter fun t => Tryd.prog.rowNamed t [101, 114, 114, 111, 114] := List.mem_filter.2 ⟨List.mem_range.2 (by rw [← types_size]; exact e3), e4⟩
  rw [error_row] at hm
  obtain rfl := List.mem_singleton.1 hm
  have hh : typeHandle Tryd.prog 26 = .pointer (some ⟨44, 26, none⟩) := by kernel_rfl
  rw [hh] at e5
  simpa [ErrTy] using World.var?_cell et_var e5 0
theorem metH {W : World} (h : laidMetH Tryd.prog Rows.feedMemoryRow.laid W) : ∃ A, Base A W := by
  have hf : Rows.feedMemoryRow.laid.filter (fun x => x.2.handleName?.isSome) = [("errors.errorType", Rows.laid_errors_errorType)] := by kernel_rfl
  have hn : Rows.feedMemoryRow.laid.filter (fun x => x.2.handleName?.isNone) = sentListH.map (sentRow sentTypeH) ++ [("culvert/frame.lawful", Rows.laid_culvert_frame_lawful)] := by kernel_rfl
  have h' : laidMet Tryd.prog (sentListH.map (sentRow sentTypeH) ++ [("culvert/frame.lawful", Rows.laid_culvert_frame_lawful)]) W ∧ handlesMet Tryd.prog [("errors.errorType", Rows.laid_errors_errorType)] W := by
    unfold laidMetH at h
    rw [hf, hn] at h
    exact h
  obtain ⟨A, hs⟩ := sents_of_laid Tryd.underlying26 sent_rowH Tryd.underlying116 Tryd.underlying136 rfl rfl Tryd.underlying9 cells_esH cells_strH sentListH codeVars sent_varsH sent_typesH (laidMet_left h'.1)
  exact ⟨A, hs, lawful_metH (laidMet_right h'.1), errTy_met h'.2⟩
theorem doorH (os : Os) (args : Array Value) : laidMetH Tryd.prog Rows.feedMemoryRow.laid ((World.doorLaid Tryd.prog 823 os).forCall (fun _ _ => 0) ⟨#[], args, []⟩).memory :=
  laidMetH_of_parts3 (fuel := 8) (laidMet_of_run' 8 (by kernel_rfl) (by kernel_rfl)) (by kernel_rfl) (by kernel_rfl)
end Go.Proofs.YtjhjhmhhnifgmaaDoor
