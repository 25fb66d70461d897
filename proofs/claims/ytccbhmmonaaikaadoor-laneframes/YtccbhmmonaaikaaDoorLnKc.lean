/-
  LaneFrames, for its card
-/
import Derived.Test.YtccbhmmonaaikaaDoorLnK
import Derived.Test.YtccbhmmonaaikaaDoorOpenTk
namespace Go.Proofs.YtccbhmmonaaikaaDoor
open Go.RowKit

theorem laneFrames_walk {A : Nat → Addr} (a : Value) (za : Tk) (b : Value) (zb : Tk) (most : Int) (w : World) (hs : St11 A w ∧ Lawful w) (ha : TkArg w a za) (hb : TkArg w b zb) :
    Calls Tryd.prog 6 #[a, b, .int .i64 most] w fun e w' => e = .returned (.bool true) ∧ Below w.heap.size w w' := by
  obtain ⟨rfl, ha⟩ := ha
  obtain ⟨rfl, hb⟩ := hb
  exact laneFrames_law za zb most w hs ha hb
end Go.Proofs.YtccbhmmonaaikaaDoor
