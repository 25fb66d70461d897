/-
  What RobinKeys' list (two tables of bits, the powers of ten) gives, and that the program's own start lays it.
-/
import Derived.Test.YtekokdfajbajoaaDoorRows
import Derived.Test.YtekokdfajbajoaaDoorRkK
import Derived.Test.YtekokdfajbajoaaDoorTabs
import Derived.ProofKit
import Derived.LaidMore
import Derived.OpenShut
import Derived.Stop.Joined
import Derived.MakeChecks
namespace Go.Proofs.YtekokdfajbajoaaDoor
open Go.ChangeShapes Go.WideShapes Go.ChangeAt Go.RowKit

theorem own : ownKnob Tryd.prog.godebug = none := by kernel_rfl
theorem laidOut : laidOutB Tryd.prog = true := by kernel_rfl
theorem metQ {W : World} (h : laidMetH Tryd.prog Rows.robinKeysRow.laid W) : ∃ _ : Unit, PowT W := by
  rw [MakeChecks.laidMetH_plain _ _ _ (by kernel_rfl)] at h
  have e : Rows.robinKeysRow.laid = [("math/bits.deBruijn32tab", Rows.laid_math_bits_deBruijn32tab), ("math/bits.deBruijn64tab", Rows.laid_math_bits_deBruijn64tab)] ++ [("internal/strconv.uint64pow10", Rows.laid_internal_strconv_uint64pow10)] := by kernel_rfl
  rw [e] at h
  have r1 := laidMet_right h
  exact ⟨(), Lib.tabIs_of_head (rest := []) (g := 0) (t := 81) (e := 73) (n := 20) (by kernel_rfl) (by kernel_rfl) Tryd.underlying81 Tryd.underlying73 (by kernel_rfl) (by kernel_rfl) r1⟩
theorem doorQ (os : Os) (args : Array Value) : laidMetH Tryd.prog Rows.robinKeysRow.laid ((World.doorLaid Tryd.prog 24 os).forCall (fun _ _ => 0) ⟨#[], args, []⟩).memory :=
  laidMetH_of_parts3 (fuel := 8) (laidMet_of_run' 8 (by kernel_rfl) (by kernel_rfl)) (by kernel_rfl) (by kernel_rfl)
end Go.Proofs.YtekokdfajbajoaaDoor
