/-
  What LruKinds' list gives, and that the program's own start lays it.
-/
import Derived.Test.YthjeeianlgkaaaaDoorLaid
import Derived.Test.YthjeeianlgkaaaaDoorTabs
import Derived.Test.YthjeeianlgkaaaaDoorLuZ
namespace Go.Proofs.YthjeeianlgkaaaaDoor
open Go.ChangeShapes Go.WideShapes Go.ChangeAt Go.RowKit

theorem metLz {W : World} (h : laidMetH Tryd.prog Rows.lruKindsRow.laid W) : ∃ A, Sents 144 codeVars A W ∧ PowT W := by
  rw [MakeChecks.laidMetH_plain _ _ _ (by kernel_rfl)] at h
  have e : Rows.lruKindsRow.laid = [("math/bits.deBruijn32tab", Rows.laid_math_bits_deBruijn32tab), ("math/bits.deBruijn64tab", Rows.laid_math_bits_deBruijn64tab)] ++ ([("internal/strconv.uint64pow10", Rows.laid_internal_strconv_uint64pow10)] ++ sentList.map (sentRow sentType)) := by kernel_rfl
  rw [e] at h
  have r1 := laidMet_right h
  have rp := laidMet_left r1
  have rs := laidMet_right r1
  have d1 : Rows.laid_internal_strconv_uint64pow10 = (Lib.tabData .u64 Lib.pow10Tab : DataW Unit) := by kernel_rfl
  rw [d1] at rp
  obtain ⟨A, hA⟩ := sents_of_laid Tryd.underlying26 sent_row Tryd.underlying144 Tryd.underlying170 rfl rfl Tryd.underlying9 cells_es cells_str sentList codeVars sent_vars sent_types rs
  exact ⟨A, hA, Lib.tabIs_of_head (rest := []) (g := 42) (t := 136) (e := 128) (n := 20) (by kernel_rfl) (by kernel_rfl) Tryd.underlying136 Tryd.underlying128 (by kernel_rfl) (by kernel_rfl) rp⟩
theorem doorLz (os : Os) (args : Array Value) : laidMetH Tryd.prog Rows.lruKindsRow.laid ((World.doorLaid Tryd.prog 822 os).forCall (fun _ _ => 0) ⟨#[], args, []⟩).memory :=
  laidMetH_of_parts3 (fuel := 8) (laidMet_of_run' 8 (by kernel_rfl) (by kernel_rfl)) (by kernel_rfl) (by kernel_rfl)
end Go.Proofs.YthjeeianlgkaaaaDoor
