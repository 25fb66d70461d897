/-
  package num: Get16, Get32
-/
import Derived.Test.YtfphoaphdfhhiaaDoorNumBytes
import Derived.Deep.QuietTactic
import Derived.BigQuiet
import Derived.WalkSmall
import Derived.Laws.BitsAllLaws
namespace Go.Proofs.YtfphoaphdfhhiaaDoor
open Go.RowKit

theorem or_join (k : Nat) (x y : Int) (hx : 0 ≤ x) (hm : x % 2 ^ k = 0) (hy : 0 ≤ y) (hy2 : y < 2 ^ k) : ((x.toNat ||| y.toNat : Nat) : Int) = x + y := by
  obtain ⟨a, rfl⟩ := Int.eq_ofNat_of_zero_le hx
  obtain ⟨b, rfl⟩ := Int.eq_ofNat_of_zero_le hy
  have e : a ||| b = a + b := nat_join k a b (by exact_mod_cast hm) (by exact_mod_cast hy2)
  simp only [Int.toNat_natCast, e]
  omega
theorem or16 (x y : Int) (hx : 0 ≤ x) (hx2 : x ≤ 255) (hy : 0 ≤ y) (hy2 : y ≤ 255) : bits .or .u16 (x * 256) y = x * 256 + y := by
  rw [u16_or _ _ (by omega) (by omega) hy (by omega)]
  exact or_join 8 _ _ (by omega) (by omega) hy (by omega)
theorem or32 (x y z t : Int) (hx : 0 ≤ x) (hx2 : x ≤ 255) (hy : 0 ≤ y) (hy2 : y ≤ 255) (hz : 0 ≤ z) (hz2 : z ≤ 255) (ht : 0 ≤ t) (ht2 : t ≤ 255) :
    bits .or .u32 (bits .or .u32 (bits .or .u32 (x * 16777216) (y * 65536)) (z * 256)) t = ((x * 256 + y) * 256 + z) * 256 + t := by
  rw [u32_or (x * 16777216) (y * 65536) (by omega) (by omega) (by omega) (by omega), or_join 24 _ _ (by omega) (by omega) (by omega) (by omega),
    u32_or (x * 16777216 + y * 65536) (z * 256) (by omega) (by omega) (by omega) (by omega), or_join 16 _ _ (by omega) (by omega) (by omega) (by omega),
    u32_or _ t (by omega) (by omega) (by omega) (by omega), or_join 8 _ _ (by omega) (by omega) (by omega) (by omega)]
  omega
theorem ret2_int {k : IntKind} {a b : Int} {v : Value} (h : a = b) : Ending.returned (.tuple #[.int k a, v]) = .returned (.tuple #[.int k b, v]) := by rw [h]

end Go.Proofs.YtfphoaphdfhhiaaDoor
