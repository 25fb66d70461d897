/-
  package num: Get16, Get32
-/
import Derived.Test.YtjhjhmhhnifgmaaDoorNumBytes
import Derived.Deep.QuietTactic
import Derived.BigQuiet
import Derived.WalkSmall
import Derived.Laws.BitsAllLaws
namespace Go.Proofs.YtjhjhmhhnifgmaaDoor
open Go.RowKit

theorem or_join (k : Nat) (x y : Int) (hx : 0 ≤ x) (hm : x % 2 ^ k = 0) (hy : 0 ≤ y) (hy2 : y < 2 ^ k) : ((x.toNat ||| y.toNat : Nat) : Int) = x + y := by
  obtain ⟨a, rfl⟩ := Int.eq_ofNat_of_zero_le hx
  obtain ⟨b, rfl⟩ := Int.eq_ofNat_of_zero_le hy
  have e : a ||| b = a + b := nat_join k a b (by exact_mod_cast hm) (by exact_mod_cast hy2)
  simp only [Int.toNat_natCast, e]
  omega
theorem or16 (x y : Int) (hx : 0 ≤ x) (hx2 : x ≤ 255) (hy : 0 ≤ y) (hy2 : y ≤ 255) : bits .or .u16 (x * 256) y = x * 256 + y := by
  rw [u16_or _ _ (by omega) (by omega) hy (by omega)]
  exact or_join 8 _ _ (by omega) (by omega) hy (by omega)
theorem or32 (x y z t : Int) (hx : 0 ≤ x) (hx2 : x ≤ 255) (hy : 0 ≤ y) (hy2 : y ≤ 255) (hz : 0 ≤ z) (hz2 : z ≤ 255) (ht : 0 ≤ t) (ht2 : t ≤ 255) :
    bits .or .u32 (bits .or .u32 (bits .or .u32 (x * 16777216) (y * 65536)) (z * 256)) t = ((x * 256 + y) * 256 + z) * 256 + t := by
  rw [u32_or (x * 16777216) (y * 65536) (by omega) (by omega) (by omega) (by omega), or_join 24 _ _ (by omega) (by omega) (by omega) (by omega),
    u32_or (x * 16777216 + y * 65536) (z * 256) (by omega) (by omega) (by omega) (by omega), or_join 16 _ _ (by omega) (by omega) (by omega) (by omega),
    u32_or _ t (by omega) (by omega) (by omega) (by omega), or_join 8 _ _ (by omega) (by omega) (by omega) (by omega)]
  omega
theorem ret2_int {k : IntKind} {a b : Int} {v : Value} (h : a = b) : Ending.returned (.tuple #[.int k a, v]) = .returned (.tuple #[.int k b, v]) := by rw [h]

theorem get16_short {A : Nat → Addr} (a : Option Addr) (len cap : Nat) (w : World) (hs : Sents 116 codeVars A w) (h : len < 2) :
    Calls Tryd.prog 37 #[.slice a len cap] w fun e w' => e = .returned (.tuple #[.int .u16 0, .iface 116 (.pointer (some (A 2)))]) ∧ Below w.heap.size w w' := by
  have hc := hs.cell 2 3 rfl
  clear hs
  have h' : (len : Int) < 2 := by omega
  go_enter Tryd.func37, Tryd.ntmps37
  go_wp2
  go_quiet (fail)
  go_wp2
  go_ret2
  exact ⟨rfl, below_drewN (Below.refl _ _) _⟩
theorem get16_ok (b o : Nat) (len cap : Nat) (w : World) (n0 n1 : Int) (h : 2 ≤ len)
    (c0 : w.cell? ⟨b, o, none⟩ = some (.int .u8 n0)) (c1 : w.cell? ⟨b, o + 1, none⟩ = some (.int .u8 n1)) (b0 : 0 ≤ n0) (b0' : n0 ≤ 255) (b1 : 0 ≤ n1) (b1' : n1 ≤ 255) :
    Calls Tryd.prog 37 #[.slice (some ⟨b, o, none⟩) len cap] w fun e w' => e = .returned (.tuple #[.int .u16 (n0 * 256 + n1), .nilIface]) ∧ Below w.heap.size w w' := by
  have h' : ¬ (len : Int) < 2 := by omega
  have l0 : (0 : Int) < (len : Int) := by omega
  have l1 : (1 : Int) < (len : Int) := by omega
  go_enter Tryd.func37, Tryd.ntmps37
  go_wp2
  go_quiet (fail)
  go_wp2
  go_ret2
  exact ⟨ret2_int (or16 n0 n1 b0 b0' b1 b1'), below_drewN (Below.refl _ _) _⟩
theorem get32_short {A : Nat → Addr} (a : Option Addr) (len cap : Nat) (w : World) (hs : Sents 116 codeVars A w) (h : len < 4) :
    Calls Tryd.prog 38 #[.slice a len cap] w fun e w' => e = .returned (.tuple #[.int .u32 0, .iface 116 (.pointer (some (A 2)))]) ∧ Below w.heap.size w w' := by
  have hc := hs.cell 2 3 rfl
  clear hs
  have h' : (len : Int) < 4 := by omega
  go_enter Tryd.func38, Tryd.ntmps38
  go_wp2
  go_quiet (fail)
  go_wp2
  go_ret2
  exact ⟨rfl, below_drewN (Below.refl _ _) _⟩
set_option maxHeartbeats 1000000 in
theorem get32_ok (b o : Nat) (len cap : Nat) (w : World) (n0 n1 n2 n3 : Int) (h : 4 ≤ len)
    (c0 : w.cell? ⟨b, o, none⟩ = some (.int .u8 n0)) (c1 : w.cell? ⟨b, o + 1, none⟩ = some (.int .u8 n1)) (c2 : w.cell? ⟨b, o + 2, none⟩ = some (.int .u8 n2)) (c3 : w.cell? ⟨b, o + 3, none⟩ = some (.int .u8 n3))
    (b0 : 0 ≤ n0) (b0' : n0 ≤ 255) (b1 : 0 ≤ n1) (b1' : n1 ≤ 255) (b2 : 0 ≤ n2) (b2' : n2 ≤ 255) (b3 : 0 ≤ n3) (b3' : n3 ≤ 255) :
    Calls Tryd.prog 38 #[.slice (some ⟨b, o, none⟩) len cap] w fun e w' => e = .returned (.tuple #[.int .u32 (((n0 * 256 + n1) * 256 + n2) * 256 + n3), .nilIface]) ∧ Below w.heap.size w w' := by
  have h' : ¬ (len : Int) < 4 := by omega
  have l0 : (0 : Int) < (len : Int) := by omega
  have l1 : (1 : Int) < (len : Int) := by omega
  have l2 : (2 : Int) < (len : Int) := by omega
  have l3 : (3 : Int) < (len : Int) := by omega
  go_enter Tryd.func38, Tryd.ntmps38
  go_wp2
  go_quiet (fail)
  go_wp2
  go_ret2
  exact ⟨ret2_int (or32 n0 n1 n2 n3 b0 b0' b1 b1' b2 b2' b3 b3'), below_drewN (Below.refl _ _) _⟩
end Go.Proofs.YtjhjhmhhnifgmaaDoor
