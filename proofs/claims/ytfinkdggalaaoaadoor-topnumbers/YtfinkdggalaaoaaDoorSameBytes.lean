/-
  the document's SameBytes
-/
import Derived.Test.YtfinkdggalaaoaaDoorLists
import Derived.Test.YtfinkdggalaaoaaDoorChecked
import Derived.WalkLawsBesides
namespace Go.Proofs.YtfinkdggalaaoaaDoor
open Go.RowKit
theorem sameBytes_any (v1 v2 : Value) (n1 n2 : List Int) (w : World) (h1 : Holds .u8 w v1 n1) (h2 : Holds .u8 w v2 n2) (b1 : AreBytes n1) (b2 : AreBytes n2) :
    Calls Tryd.prog 9 #[v1, v2] w fun e w' => e = .returned (.bool (decide (n1 = n2))) ∧ w' = w := by
  have c1 := run_bytesStr (P := Tryd.prog) w 23 9 5 v1 n1 Tryd.underlying23 Tryd.underlying5 Tryd.underlying9 h1
  have c2 := run_bytesStr (P := Tryd.prog) w 23 9 5 v2 n2 Tryd.underlying23 Tryd.underlying5 Tryd.underlying9 h2
  have E := strOf_beq b1 b2
  have HE : Hid (((strOf n1).toList == (strOf n2).toList) = decide (n1 = n2)) := E
  clear h1 h2 E
  go_enter Tryd.func9, Tryd.ntmps9
  go_wp2
  go_ret
  exact ⟨by rw [← HE.out]; rfl, rfl⟩
end Go.Proofs.YtfinkdggalaaoaaDoor
