/-
  the document's SameBytes
-/
import Derived.Test.YtnifiagkiphjfaaDoorLists
import Derived.Test.YtnifiagkiphjfaaDoorChecked
import Derived.WalkLawsBesides
namespace Go.Proofs.YtnifiagkiphjfaaDoor
open Go.RowKit
theorem sameBytes_any (v1 v2 : Value) (n1 n2 : List Int) (w : World) (h1 : Holds .u8 w v1 n1) (h2 : Holds .u8 w v2 n2) (b1 : AreBytes n1) (b2 : AreBytes n2) :
    Calls Tryd.prog 13 #[v1, v2] w fun e w' => e = .returned (.bool (decide (n1 = n2))) ∧ w' = w := by
  have c1 := run_bytesStr (P := Tryd.prog) w 32 9 5 v1 n1 Tryd.underlying32 Tryd.underlying5 Tryd.underlying9 h1
  have c2 := run_bytesStr (P := Tryd.prog) w 32 9 5 v2 n2 Tryd.underlying32 Tryd.underlying5 Tryd.underlying9 h2
  have E := strOf_beq b1 b2
  have HE : Hid (((strOf n1).toList == (strOf n2).toList) = decide (n1 = n2)) := E
  clear h1 h2 E
  go_enter Tryd.func13, Tryd.ntmps13
  go_wp2
  go_ret
  exact ⟨by rw [← HE.out]; rfl, rfl⟩
end Go.Proofs.YtnifiagkiphjfaaDoor
