/-
  the document's SameFrames.
-/
import Derived.Test.YtjhjhmhhnifgmaaDoorFeedX
import Derived.BigQuiet
namespace Go.Proofs.YtjhjhmhhnifgmaaDoor
open Go.RowKit

section
variable {w : World}
theorem FramesR.quiet {w' : World} {v : Value} {fs : List (List Int × List Int)} (h : FramesR w v fs) (hk : Keeps Nowhere w w') : FramesR w' v fs := by
  obtain ⟨xs, h1, h2, h4⟩ := h
  exact ⟨xs, h1, h2.later hk (fun _ _ x => x), fun x hx => (h4 x hx).later hk.bel⟩
set_option maxHeartbeats 4000000 in
theorem sameFrames_eq (a b : Value) (fs : List (List Int × List Int)) (ha : FramesR w a fs) (hb : FramesR w b fs) (hn : fs.length ≤ 1099511627776) :
    Calls Tryd.prog 9 #[a, b] w fun e w' => e = .returned (.bool true) ∧ Keeps Nowhere w w' := by
  obtain ⟨qa, ca, rfl⟩ := ha.shape
  obtain ⟨qb, cb, rfl⟩ := hb.shape
  have HA := Aside.mk ha
  have HB := Aside.mk hb
  have HN := Aside.mk hn
  obtain ⟨N, hN⟩ : ∃ N, Aside (fs.length = N) := ⟨_, ⟨rfl⟩⟩
  rw [hN.it] at HA HB ⊢
  clear ha hb hn
  go_enter Tryd.func9, Tryd.ntmps9
  go_wp2_with fail
  go_loopw [5] (fun i wr => ∃ m : Nat, i = .int .i64 m ∧ m ≤ N ∧ Aside (Keeps Nowhere w wr)) (fun i _ => N - (intOf i).toNat)
  case atStart => exact ⟨0, rfl, Nat.zero_le _, ⟨Keeps.refl _ _⟩⟩
  case round =>
    obtain ⟨m, rfl, hm, hw⟩ := hrel
    have hNb : N ≤ 1099511627776 := by have := HN.it; have := hN.it; omega
    by_cases hlt : m < N
    · obtain ⟨⟨h, d⟩, hx⟩ : ∃ x, fs[m]? = some x := ⟨_, List.getElem?_eq_getElem (by rw [hN.it]; exact hlt)⟩
      obtain ⟨ga, oa, dqa, dca, rfl, FA, DA⟩ := HA.it.at hx
      obtain ⟨gb, ob, dqb, dcb, rfl, FB, DB⟩ := HB.it.at hx
      have K : Keeps Nowhere w wr := hw.it
      have hc : ∀ {x : Addr} {v : Value}, w.cell? x = some v → wr.cell? x = some v := fun {x v} e => by rw [K.bel.cell (World.block_lt_of_cell? w _ e)]; exact e
      have a0 := hc FA.it.1
      have a1 := hc FA.it.2.1
      have a2 := hc FA.it.2.2.1
      have a3 := hc FA.it.2.2.2.1
      have a4 := hc FA.it.2.2.2.2.1
      have a5 := hc FA.it.2.2.2.2.2
      have b0 := hc FB.it.1
      have b1 := hc FB.it.2.1
      have b2 := hc FB.it.2.2.1
      have b3 := hc FB.it.2.2.2.1
      have b4 := hc FB.it.2.2.2.2.1
      have b5 := hc FB.it.2.2.2.2.2
      have s1 := fun k => run_bytesStr (P := Tryd.prog) (wr.drewN k) 29 9 5 (.slice dqa d.length dca) d Tryd.underlying29 Tryd.underlying5 Tryd.underlying9 (DA.it.later (K.drewN k).bel).holds
      have s2 := fun k => run_bytesStr (P := Tryd.prog) (wr.drewN k) 29 9 5 (.slice dqb d.length dcb) d Tryd.underlying29 Tryd.underlying5 Tryd.underlying9 (DB.it.later (K.drewN k).bel).holds
      have hlt' : (m : Int) < (N : Int) := by omega
      have hm0 : (0 : Int) ≤ (m : Int) := by omega
      have K := Aside.mk K
      clear hc
      go_wp2_with fail
      go_quiet (fail)
      go_wp2_with fail
      go_round
      case rel => exact ⟨m + 1, by go_num, by omega, ⟨hw.it.drewN _⟩⟩
      case measure => simp [intOf]; omega
    · have hlt' : ¬ (m : Int) < (N : Int) := by omega
      go_wp2_with fail
      go_ret
      exact ⟨rfl, hw.it⟩
end
end Go.Proofs.YtjhjhmhhnifgmaaDoor
