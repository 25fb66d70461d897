/-
  What LaneFrames' list (the 42 sentinels, the shapes, frame.lawful) gives.
-/
import Derived.Test.YtccbhmmonaaikaaDoorLaidL
import Derived.Test.YtccbhmmonaaikaaDoorFrameA
namespace Go.Proofs.YtccbhmmonaaikaaDoor
open Go.ChangeShapes Go.WideShapes Go.ChangeAt Go.RowKit

theorem lawful_met {W : World} (h : laidMet Tryd.prog [("culvert/frame.lawful", Rows.laid_culvert_frame_lawful)] W) : Lawful W := by
  have hd : Rows.laid_culvert_frame_lawful = (.agg (lawfulTab.map fun l => .agg (l.map fun b => .lit (.bool b))) : DataW Unit) := rfl
  rw [hd] at h
  have := bools_of_laid (P := Tryd.prog) (W := W) (name := "culvert/frame.lawful") (g := 43) (t := 119) (e := 118) (n := 4) (k := 16) (tb := 4) (T := lawfulTab) (ds := lawfulTab.map fun l => .agg (l.map fun b => .lit (.bool b)))
    (by kernel_rfl) (by kernel_rfl) Tryd.underlying119 Tryd.underlying118 Tryd.underlying4 (by kernel_rfl) (by kernel_rfl) rfl (by decide) h
  intro i j hi hj
  exact this i j hi hj
theorem met11F {W : World} (h : laidMetH Tryd.prog Rows.laneFramesRow.laid W) : ∃ A, St11 A W ∧ Lawful W := by
  rw [MakeChecks.laidMetH_plain _ _ _ (by kernel_rfl)] at h
  have e : Rows.laneFramesRow.laid = sentList.map (sentRow sentType) ++ ([("culvert/lane.shapes", Rows.laid_culvert_lane_shapes)] ++ [("culvert/frame.lawful", Rows.laid_culvert_frame_lawful)]) := by kernel_rfl
  rw [e] at h
  obtain ⟨A, hs⟩ := sents_of_laid Tryd.underlying42 sent_row Tryd.underlying134 Tryd.underlying158 rfl rfl Tryd.underlying9 cells_es cells_str sentList codeVars sent_vars sent_types (laidMet_left h)
  have r := laidMet_right h
  exact ⟨A, ⟨hs, shapes_met (laidMet_left r)⟩, lawful_met (laidMet_right r)⟩
theorem door11F (os : Os) (args : Array Value) : laidMetH Tryd.prog Rows.laneFramesRow.laid ((World.doorLaid Tryd.prog 828 os).forCall (fun _ _ => 0) ⟨#[], args, []⟩).memory :=
  laidMetH_of_parts3 (fuel := 8) (laidMet_of_run' 8 (by kernel_rfl) (by kernel_rfl)) (by kernel_rfl) (by kernel_rfl)
end Go.Proofs.YtccbhmmonaaikaaDoor
