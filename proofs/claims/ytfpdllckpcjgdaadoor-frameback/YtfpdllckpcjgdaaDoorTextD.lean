/-
  the document's Text.
-/
import Derived.Test.YtfpdllckpcjgdaaDoorTextB
import Derived.Lib.ItoaLen
namespace Go.Proofs.YtfpdllckpcjgdaaDoor
open Go.RowKit

theorem str_append (a b : List UInt8) : str a ++ str b = str (a ++ b) := by
  apply ByteArray.ext
  rw [ByteArray.data_append]
  simp
theorem one_str (W : World) (x : Int) : (convert 26 9 (.slice (some ⟨W.heap.size, 0, none⟩) 1 1)).run Tryd.prog (W.alloc (.cells #[.int .u8 x] 5)) = .ok (.string (str [UInt8.ofNat x.toNat])) (W.alloc (.cells #[.int .u8 x] 5)) :=
  run_bytesStr (P := Tryd.prog) (W.alloc (.cells #[.int .u8 x] 5)) 26 9 5 _ [x] Tryd.underlying26 Tryd.underlying5 Tryd.underlying9 (holds_new W [x] 5 1 rfl)

def flB (f b : Int) (wd : List UInt8) : List UInt8 := if bits .and .u16 f b = 0 then [] else 32 :: wd
def kiB (t : Int) : List UInt8 := if t < 4 then wordsT.getD t.toNat [] else [116, 121, 112, 101, 32] ++ Lib.decDigits t.toNat
theorem dd_len (n : Int) (h : n ≤ 4294967295) : (Lib.decDigits n.toNat).length ≤ 20 := by
  rw [Lib.decDigits_length]
  exact Lib.nDigits_le20 _ (by omega)
theorem kiB_len (t : Int) (ht0 : 0 ≤ t) (ht1 : t ≤ 255) : (kiB t).length ≤ 30 := by
  unfold kiB
  split
  · rcases (show t = 0 ∨ t = 1 ∨ t = 2 ∨ t = 3 by omega) with rfl | rfl | rfl | rfl <;> decide
  · have := dd_len t (by omega)
    simp
    omega
end Go.Proofs.YtfpdllckpcjgdaaDoor
