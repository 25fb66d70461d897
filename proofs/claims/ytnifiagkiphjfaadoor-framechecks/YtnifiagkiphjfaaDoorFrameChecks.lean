/-
  FrameChecks: the walk.
-/
import Derived.Test.YtnifiagkiphjfaaDoorFrameE
import Derived.Test.YtnifiagkiphjfaaDoorOpenF
namespace Go.Proofs.YtnifiagkiphjfaaDoor
open Go.RowKit

theorem frameChecks_walk {A : Nat → Addr} (v : Value) (z : HV) (most : Int) (w : World) (hs : At4 A w w) (hz : HdrArg w v z) :
    Calls Tryd.prog 6 #[v, .int .i64 most] w fun e w' => e = .returned (.bool true) ∧ Below w.heap.size w w' := by
  obtain ⟨rfl, _, h1, h2, _, h4⟩ := hz
  exact frameChecks_law z.v z.t z.f z.s z.l most w hs.s hs.l h1.1 h1.2 h2.1 h4.1 h4.2
end Go.Proofs.YtnifiagkiphjfaaDoor
