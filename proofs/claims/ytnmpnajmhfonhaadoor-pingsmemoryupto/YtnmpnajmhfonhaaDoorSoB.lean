/-
  slices.Sort of numbers of 32 bits: Less, insertionSort
-/
import Derived.Test.YtnmpnajmhfonhaaDoorSoA
import Derived.Lib.Walk
import Derived.WalkKit
import Derived.BigGuard
import Derived.BigCall
import Derived.CellFam
import Derived.Deep.Draws
import Derived.Deep.QuietTactic
import Derived.BigQuiet
namespace Go.Proofs.YtnmpnajmhfonhaaDoor
open Go.RowKit Go.Sort

theorem nan32 (x : Nat) (w : World) : Calls Tryd.prog 63 #[.int .u32 x] w fun e w' => e = .returned (.bool false) ∧ w' = w := by
  go_enter Tryd.func63, Tryd.ntmps63
  go_wp2
  go_ret
  exact ⟨by simp, rfl⟩
theorem less32 (x y : Nat) (w : World) : Calls Tryd.prog 53 #[.int .u32 x, .int .u32 y] w fun e w' => e = .returned (.bool (ltN x y)) ∧ w' = w := by
  go_enter Tryd.func53, Tryd.ntmps53
  go_wp2_with (go_at_call 63; refine (nan32 _ _).mono ?_; rintro e w' ⟨rfl, rfl⟩)
  go_ret
  refine ⟨?_, rfl⟩
  unfold ltN
  simp

section
variable {α : Type} [Inhabited α] (lt : α → α → Bool)
theorem insI_go (a j : Nat) (d : Array α) (hj : a < j) (hl : lt d[j]! d[j - 1]! = true) : insInner lt a j d = insInner lt a (j - 1) (swp d j (j - 1)) := by
  obtain ⟨k, rfl⟩ : ∃ k, j = k + 1 := ⟨j - 1, by omega⟩
  simp only [Nat.add_sub_cancel] at hl ⊢
  rw [insInner]
  simp [hj, hl]
theorem insI_stop (a j : Nat) (d : Array α) (h : j ≤ a ∨ lt d[j]! d[j - 1]! = false) : insInner lt a j d = d := by
  cases j with
  | zero => rw [insInner]
  | succ k =>
    rw [insInner]
    simp only [Nat.add_sub_cancel] at h
    rcases h with h | h
    · simp [show ¬ a < k + 1 by omega]
    · simp [h]
theorem insO_go (a b i : Nat) (d : Array α) (h : i < b) : insOuter lt a b i d = insOuter lt a b (i + 1) (insInner lt a i d) := by
  conv => lhs; rw [insOuter, if_pos h]
end
def natOf : Value → Nat | .int _ q => q.toNat | _ => 0

theorem insertion32 (g off cap a b : Nat) (d : Array Nat) (w : World) (h : Ro w g off cap d) (hb : b ≤ d.size) (ha : a ≤ b) (hs : d.size ≤ 4611686018427387903) :
    Calls Tryd.prog 47 #[.slice (some ⟨g, off, none⟩) d.size cap, .int .i64 a, .int .i64 b] w fun e w' =>
      e = .returned (.tuple #[]) ∧ Aside (So w g off cap (Sort.insertionSort ltN d a b) w') := by
  obtain ⟨N, hN⟩ : ∃ N, d.size = N := ⟨_, rfl⟩
  have H := Aside.mk h
  have HN := Aside.mk hN
  have hcap : N ≤ cap := hN ▸ h.le
  rw [hN] at hb hs ⊢
  clear h hN
  go_enter Tryd.func47, Tryd.ntmps47
  go_wp2
  go_loopw [6] (fun vi wr => ∃ (i : Nat) (dk : Array Nat), vi = .int .i64 i ∧ a < i ∧ i ≤ b + 1 ∧ dk.size = N ∧ So w g off cap dk wr ∧ insOuter ltN a b i dk = insOuter ltN a b (a + 1) d) (fun vi _ => b + 1 - natOf vi)
  case atStart => exact ⟨a + 1, d, by go_num, by omega, by omega, HN.it, So.refl H.it, rfl⟩
  case round =>
    obtain ⟨i, dk, rfl, hai, hib, hsk, hS, hO⟩ := hrel
    have HO := Aside.mk hO
    have HS := Aside.mk hS
    have HSK := Aside.mk hsk
    clear hO hS hsk
    go_wp2
    · have hlt : i < b := by assumption
      go_loopw [7] (fun vj wr2 => ∃ (j : Nat) (dj : Array Nat), vj = .int .i64 j ∧ a ≤ j ∧ j ≤ i ∧ dj.size = N ∧ So w g off cap dj wr2 ∧ insInner ltN a j dj = insInner ltN a i dk) (fun vj _ => natOf vj)
      case atStart => exact ⟨i, dk, rfl, by omega, Nat.le_refl _, HSK.it, HS.it, rfl⟩
      case round =>
        obtain ⟨j, dj, rfl, haj, hji, hsj, hS2, hI⟩ := hrel
        obtain ⟨G, HG, hcw, hfw⟩ := hS2.r.names hsj
        have HS2 := Aside.mk hS2
        have HSJ := Aside.mk hsj
        have HI := Aside.mk hI
        clear hS2 hsj hI
        have OUT : Aside ((j ≤ a ∨ ltN dj[j]! dj[j - 1]! = false) → ∀ q, ∃ i' dk', Value.int .i64 ((i : Int) + 1) = .int .i64 (i' : Nat) ∧ a < i' ∧ i' ≤ b + 1 ∧ dk'.size = N ∧ So w g off cap dk' (wr.drewN q) ∧ insOuter ltN a b i' dk' = insOuter ltN a b (a + 1) d) := ⟨fun hs q =>
          ⟨i + 1, dj, by go_num, by omega, by omega, HSJ.it, HS2.it.drewN q, by rw [← HO.it, insO_go _ _ _ _ _ hlt, ← HI.it, insI_stop _ _ _ _ hs]⟩⟩
        go_wp2
        by_cases hja : a < j
        · go_quiet (first | (go_at_call 53; refine Calls.quiet_of_same (less32 _ _ _)))
          go_wp2
          · have hl : ltN (G j) (G (j - 1)) = true := by assumption
            go_region
            all_goals go_wp2
            go_roundw
            case rel =>
              refine ⟨j - 1, swp dj j (j - 1), by congr 1; omega, by omega, by omega, by rw [size_swp]; exact HSJ.it, ?_, ?_⟩
              · have := (HS2.it.drewN (nq + 1)).swap j (j - 1) (by rw [HSJ.it]; omega) (by rw [HSJ.it]; omega)
                rw [← HG.it, ← HG.it] at this
                exact this
              · rw [← HI.it, insI_go ltN a j dj hja (by rw [← HG.it, ← HG.it]; exact hl)]
            case measure => simp [natOf]; omega
          · have hl : ltN (G j) (G (j - 1)) = false := by assumption
            go_roundw
            case rel => exact OUT.it (Or.inr (by rw [← HG.it, ← HG.it]; exact hl)) nq
            case measure => simp [natOf]; omega
        · go_quiet (first | (go_at_call 53; refine Calls.quiet_of_same (less32 _ _ _)))
          go_wp2
          go_roundw
          case rel => exact OUT.it (Or.inl (by omega)) nq
          case measure => simp [natOf]; omega
    · have hge : ¬ i < b := by assumption
      go_end0
      refine ⟨rfl, ⟨?_⟩⟩
      have e : Sort.insertionSort ltN d a b = dk := by
        unfold Sort.insertionSort
        rw [← HO.it, insOuter, if_neg hge]
      rw [e]
      exact HS.it
end Go.Proofs.YtnmpnajmhfonhaaDoor
