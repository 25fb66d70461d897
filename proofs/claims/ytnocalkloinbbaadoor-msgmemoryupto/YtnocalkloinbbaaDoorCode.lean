/-
  culvertlaw's 'Code' at nil and at a listed sentinel other than ErrProtocol.
-/
import Derived.Test.YtnocalkloinbbaaDoorSentinel
namespace Go.Proofs.YtnocalkloinbbaaDoor
open Go.RowKit

theorem codeVars_length : codeVars.length = 42 := rfl

theorem code_nil (w : World) : Calls Tryd.prog 12 #[.nilIface] w fun e w' => e = .returned (.int .i64 0) ∧ w' = w := by
  go_enter Tryd.func12, Tryd.ntmps12
  go_wp2
  go_ret
  exact ⟨rfl, rfl⟩

set_option maxHeartbeats 1000000 in
set_option maxRecDepth 100000 in
theorem code_sent {A : Nat → Addr} {w : World} (h : Sents 74 codeVars A w) (k : Nat) (hk : k < 42) (hk27 : k ≠ 27) :
    Calls Tryd.prog 12 #[.iface 74 (.pointer (some (A k)))] w fun e w' => e = .returned (.int .i64 ((k : Int) + 1)) ∧ w' = w := by
  go_enter Tryd.func12, Tryd.ntmps12
  go_wp2
  go_loop [3, 4, 5, 6] (fun f y b n => ∃ m : Nat, m ≤ 42 ∧ n = .int .i64 ((m : Int) + 1) ∧ b = .bool false ∧ ((m ≤ k ∧ f = .int .i64 0 ∧ y = .int .i64 0) ∨ (k < m ∧ f = .int .i64 1 ∧ y = .int .i64 ((k : Int) + 1)))) (fun _ _ _ n => 43 - (intOf n).toNat)
  case atStart => exact ⟨0, by omega, rfl, rfl, Or.inl ⟨by omega, rfl, rfl⟩⟩
  case round =>
    obtain ⟨m, hm, rfl, rfl, hor⟩ := hrel
    by_cases hlt : m < 42
    · have cS := sentinel_at h m hlt
      have cI := is_sents h k m (by rw [codeVars_length]; omega) (by rw [codeVars_length]; omega)
      have HS : Hid (Calls Tryd.prog 23 #[.int .i64 ((m : Int) + 1)] w fun e w' => e = .returned (.iface 74 (.pointer (some (A m)))) ∧ w' = w) := cS
      clear cS
      by_cases hkm : k = m
      · have hb28 : (((m : Int) + 1) == 28) = false := by rw [beq_eq_false_iff_ne]; omega
        rcases hor with ⟨hmk, rfl, rfl⟩ | ⟨hmk, _, _⟩
        · have HI : Hid (Calls Tryd.prog 22 #[.iface 74 (.pointer (some (A k))), .iface 74 (.pointer (some (A m)))] w fun e w' => e = .returned (.bool true) ∧ w' = w) := by unfold Hid; simpa [hkm] using cI
          have HK : Hid (k = m) := hkm
          clear cI hkm
          go_wp2_with (first | (go_at_call 23; refine HS.out.mono ?_; rintro e w' ⟨rfl, rfl⟩) | (go_at_call 22; refine HI.out.mono ?_; rintro e w' ⟨rfl, rfl⟩))
          go_round
          case rel => exact ⟨m + 1, by omega, by go_num, rfl, Or.inr ⟨by have := HK.out; omega, rfl, by rw [HK.out]⟩⟩
          case measure => simp [intOf]; omega
        · omega
      · have HI : Hid (Calls Tryd.prog 22 #[.iface 74 (.pointer (some (A k))), .iface 74 (.pointer (some (A m)))] w fun e w' => e = .returned (.bool false) ∧ w' = w) := by unfold Hid; simpa [hkm] using cI
        clear cI
        rcases hor with ⟨hmk, rfl, rfl⟩ | ⟨hmk, rfl, rfl⟩
        · go_wp2_with (first | (go_at_call 23; refine HS.out.mono ?_; rintro e w' ⟨rfl, rfl⟩) | (go_at_call 22; refine HI.out.mono ?_; rintro e w' ⟨rfl, rfl⟩))
          go_round
          case rel => exact ⟨m + 1, by omega, by go_num, rfl, Or.inl ⟨by omega, rfl, rfl⟩⟩
          case measure => simp [intOf]; omega
        · go_wp2_with (first | (go_at_call 23; refine HS.out.mono ?_; rintro e w' ⟨rfl, rfl⟩) | (go_at_call 22; refine HI.out.mono ?_; rintro e w' ⟨rfl, rfl⟩))
          go_round
          case rel => exact ⟨m + 1, by omega, by go_num, rfl, Or.inr ⟨by omega, rfl, rfl⟩⟩
          case measure => simp [intOf]; omega
    · rcases hor with ⟨hmk, _, _⟩ | ⟨hmk, rfl, rfl⟩
      · omega
      · go_wp2
        go_ret
        exact ⟨rfl, rfl⟩
/-- an error value that Code gives the number k -/
def Coded (A : Nat → Addr) (v : Value) (k : Int) : Prop := (v = .nilIface ∧ k = 0) ∨ ∃ i : Nat, i < 42 ∧ i ≠ 27 ∧ v = .iface 74 (.pointer (some (A i))) ∧ k = (i : Int) + 1
theorem Coded.none {A : Nat → Addr} : Coded A .nilIface 0 := Or.inl ⟨rfl, rfl⟩
theorem Coded.mk {A : Nat → Addr} (i : Nat) (k : Int) (h : i < 42) (h27 : i ≠ 27) (hk : k = (i : Int) + 1) : Coded A (.iface 74 (.pointer (some (A i)))) k := Or.inr ⟨i, h, h27, rfl, hk⟩
theorem code_of {A : Nat → Addr} {w : World} {v : Value} {k : Int} (h : Sents 74 codeVars A w) (hv : Coded A v k) :
    Calls Tryd.prog 12 #[v] w fun e w' => e = .returned (.int .i64 k) ∧ w' = w := by
  rcases hv with ⟨rfl, rfl⟩ | ⟨i, hi, h27, rfl, rfl⟩
  · exact code_nil w
  · exact code_sent h i hi h27
end Go.Proofs.YtnocalkloinbbaaDoor
