/-
  FrameChecks.
-/
import Derived.Test.YtfpdllckpcjgdaaDoorFrameD
import Derived.Test.YtfpdllckpcjgdaaDoorFrameE0
namespace Go.Proofs.YtfpdllckpcjgdaaDoor
open Go.RowKit

theorem awake_b {A : Nat → Addr} {w : World} {p : Nat} {v t f s l : Int} (W : World) (h : Aside (Boxed A w p v t f s l W)) :
    Calls Tryd.prog 4 #[] W fun e w' => e = .returned (.bool true) ∧ Aside (Boxed A w p v t f s l w') :=
  (awake4 W h.it.a.s h.it.a.l).mono (by rintro e w' ⟨rfl, hb⟩; exact ⟨rfl, ⟨h.it.later hb⟩⟩)

end Go.Proofs.YtfpdllckpcjgdaaDoor
