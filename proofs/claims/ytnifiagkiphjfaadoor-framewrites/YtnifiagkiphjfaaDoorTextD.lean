/-
  the document's Text.
-/
import Derived.Test.YtnifiagkiphjfaaDoorTextB
import Derived.Lib.ItoaLen
namespace Go.Proofs.YtnifiagkiphjfaaDoor
open Go.RowKit

theorem str_append (a b : List UInt8) : str a ++ str b = str (a ++ b) := by
  apply ByteArray.ext
  rw [ByteArray.data_append]
  simp
theorem one_str (W : World) (x : Int) : (convert 32 9 (.slice (some ⟨W.heap.size, 0, none⟩) 1 1)).run Tryd.prog (W.alloc (.cells #[.int .u8 x] 5)) = .ok (.string (str [UInt8.ofNat x.toNat])) (W.alloc (.cells #[.int .u8 x] 5)) :=
  run_bytesStr (P := Tryd.prog) (W.alloc (.cells #[.int .u8 x] 5)) 32 9 5 _ [x] Tryd.underlying32 Tryd.underlying5 Tryd.underlying9 (holds_new W [x] 5 1 rfl)

set_option maxHeartbeats 1500000 in
theorem refDigits_any (u : Nat) (hu : u ≤ 4294967295) (w : World) :
    Calls Tryd.prog 40 #[.int .i64 u] w fun e w' => e = .returned (.string (str (Lib.decDigits u))) ∧ Below w.heap.size w w' := by
  have hone := one_str
  go_enter Tryd.func40, Tryd.ntmps40
  go_wp2_with fail
  go_loopw [0, 3] (fun n s wr => ∃ (m : Nat) (tl : List UInt8), n = .int .i64 m ∧ s = .string (str tl) ∧ m ≤ 4294967295 ∧ Aside (Lib.decDigits u = Lib.decDigits m ++ tl) ∧ Aside (Below w.heap.size w wr)) (fun n _ _ => (intOf n).toNat)
  case atStart => exact ⟨u, [], rfl, rfl, hu, ⟨by simp⟩, ⟨Below.refl _ _⟩⟩
  case round =>
    obtain ⟨m, tl, rfl, rfl, hm, E, B⟩ := hrel
    have htl : tl.length ≤ 20 := by
      have h1 := congrArg List.length E.it
      rw [List.length_append, Lib.decDigits_length] at h1
      have h2 := Lib.nDigits_le20 u (by omega)
      omega
    have hsz : ¬ 9223372036854775807 < 1 + tl.length := by omega
    by_cases h10 : m < 10
    · have h' : ¬ (10 : Int) ≤ (m : Int) := by omega
      go_wp2_with fail
      go_ret
      refine ⟨?_, B.it.alloc B.it.size _⟩
      have e : Lib.decDigits m = [UInt8.ofNat (48 + m)] := by rw [Lib.decDigits]; simp [h10]
      rw [E.it, e]
      show Ending.returned (.string (str [48 + UInt8.ofNat m] ++ str tl)) = _
      rw [str_append]
      simp [UInt8.ofNat_add]
    · have h' : (10 : Int) ≤ (m : Int) := by omega
      go_wp2_with fail
      refine ⟨⟨m / 10, [48 + UInt8.ofNat (m % 10)] ++ tl, by go_num, by rw [str_append], by omega, ⟨?_⟩, ⟨B.it.alloc B.it.size _⟩⟩, by simp [intOf]; omega⟩
      have e : Lib.decDigits m = Lib.decDigits (m / 10) ++ [UInt8.ofNat (48 + m % 10)] := by rw [Lib.decDigits]; simp [h10]
      rw [E.it, e]
      simp [UInt8.ofNat_add]
def flB (f b : Int) (wd : List UInt8) : List UInt8 := if bits .and .u16 f b = 0 then [] else 32 :: wd
theorem refFlag_any (f b : Int) (wd : List UInt8) (hw : wd.length ≤ 100) (w : World) :
    Calls Tryd.prog 41 #[.int .u16 f, .int .u16 b, .string (str wd)] w fun e w' => e = .returned (.string (str (flB f b wd))) ∧ w' = w := by
  have hsz : ¬ 9223372036854775807 < 1 + wd.length := by omega
  by_cases h : bits .and .u16 f b = 0
  · have E := Aside.mk (show flB f b wd = [] from if_pos h)
    go_enter Tryd.func41, Tryd.ntmps41
    go_wp2_with fail
    go_ret
    exact ⟨by rw [E.it]; rfl, rfl⟩
  · have E := Aside.mk (show flB f b wd = 32 :: wd from if_neg h)
    go_enter Tryd.func41, Tryd.ntmps41
    go_wp2_with fail
    go_ret
    refine ⟨?_, rfl⟩
    rw [E.it]
    show Ending.returned (.string (str [32] ++ str wd)) = _
    rw [str_append]
    rfl
def kiB (t : Int) : List UInt8 := if t < 4 then wordsT.getD t.toNat [] else [116, 121, 112, 101, 32] ++ Lib.decDigits t.toNat
theorem dd_len (n : Int) (h : n ≤ 4294967295) : (Lib.decDigits n.toNat).length ≤ 20 := by
  rw [Lib.decDigits_length]
  exact Lib.nDigits_le20 _ (by omega)
set_option maxHeartbeats 1500000 in
theorem refKind_any (t : Int) (ht0 : 0 ≤ t) (ht1 : t ≤ 255) (w : World) :
    Calls Tryd.prog 39 #[.int .u8 t] w fun e w' => e = .returned (.string (str (kiB t))) ∧ Below w.heap.size w w' := by
  by_cases h4 : t < 4
  · rcases (show t = 0 ∨ t = 1 ∨ t = 2 ∨ t = 3 by omega) with rfl | rfl | rfl | rfl
    all_goals
      go_enter Tryd.func39, Tryd.ntmps39
      go_wp2_with fail
      go_ret
      exact ⟨rfl, Below.refl _ _⟩
  · obtain ⟨u, rfl⟩ := Int.eq_ofNat_of_zero_le ht0
    have D := Aside.mk (refDigits_any u (by omega) w)
    have hl := dd_len (u : Int) (by omega)
    have E := Aside.mk (show kiB (u : Int) = [116, 121, 112, 101, 32] ++ Lib.decDigits u by simp [kiB]; intro; omega)
    simp only [Int.toNat_natCast] at hl
    have hsz : ¬ 9223372036854775807 < 5 + (Lib.decDigits u).length := by omega
    have n0 : ¬ (u : Int) = 0 := by omega
    have n1 : ¬ (u : Int) = 1 := by omega
    have n2 : ¬ (u : Int) = 2 := by omega
    have n3 : ¬ (u : Int) = 3 := by omega
    go_enter Tryd.func39, Tryd.ntmps39
    go_wp2_with (go_at_call 40; refine D.it.mono ?_; rintro e w1 ⟨rfl, hb⟩)
    go_ret
    refine ⟨?_, hb⟩
    rw [E.it]
    show Ending.returned (.string (str [116, 121, 112, 101, 32] ++ str (Lib.decDigits u))) = _
    rw [str_append]
theorem kiB_len (t : Int) (ht0 : 0 ≤ t) (ht1 : t ≤ 255) : (kiB t).length ≤ 30 := by
  unfold kiB
  split
  · rcases (show t = 0 ∨ t = 1 ∨ t = 2 ∨ t = 3 by omega) with rfl | rfl | rfl | rfl <;> decide
  · have := dd_len t (by omega)
    simp
    omega
end Go.Proofs.YtnifiagkiphjfaaDoor
