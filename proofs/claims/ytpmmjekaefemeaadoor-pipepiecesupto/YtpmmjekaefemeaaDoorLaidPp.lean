/-
  PipePieces' row: nothing of its list is read; that the program's own start lays it
-/
import Derived.Test.YtpmmjekaefemeaaDoorRows
import Derived.Test.YtpmmjekaefemeaaDoorLaid
namespace Go.Proofs.YtpmmjekaefemeaaDoor
open Go.ChangeShapes Go.WideShapes Go.ChangeAt Go.RowKit

theorem metPp {W : World} (_h : laidMetH Tryd.prog Rows.pipePiecesRow.laid W) : ∃ _A : Nat → Addr, True := ⟨fun _ => ⟨0, 0, none⟩, trivial⟩
theorem doorPp (os : Os) (args : Array Value) : laidMetH Tryd.prog Rows.pipePiecesRow.laid ((World.doorLaid Tryd.prog 807 os).forCall (fun _ _ => 0) ⟨#[], args, []⟩).memory :=
  laidMetH_of_parts3 (fuel := 8) (laidMet_of_run' 8 (by kernel_rfl) (by kernel_rfl)) (by kernel_rfl) (by kernel_rfl)
end Go.Proofs.YtpmmjekaefemeaaDoor
