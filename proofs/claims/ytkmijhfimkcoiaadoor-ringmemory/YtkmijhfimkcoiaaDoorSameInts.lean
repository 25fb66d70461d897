/-
  same: two lists of numbers that are alike
-/
import Derived.Test.YtkmijhfimkcoiaaDoorRingAint
import Derived.Test.YtkmijhfimkcoiaaDoorIv
namespace Go.Proofs.YtkmijhfimkcoiaaDoor
open Go.RowKit

theorem same_eq (w : World) (a b : Value) (ns : List Int) (ha : ReadsOff Nowhere w a (iv ns)) (hb : ReadsOff Nowhere w b (iv ns)) (hl : ns.length ≤ 9223372036854775806) :
    Calls Tryd.prog 9 #[a, b] w fun e w' => e = .returned (.bool true) ∧ Keeps Nowhere w w' := by
  obtain ⟨pa, ca, rfl, hla, hca⟩ := ha
  obtain ⟨pb, cb, rfl, hlb, hcb⟩ := hb
  have el : (iv ns).length = ns.length := by simp [iv]
  rw [el] at hla hlb ⊢
  obtain ⟨l, hn⟩ : ∃ l, l = ns.length := ⟨_, rfl⟩
  rw [← hn] at hla hlb hl ⊢
  have ca' : ∀ k, k < l → ∃ x, pa = some x ∧ w.cell? (x.add k) = some (.int .i64 (ns.getD k 0)) := by
    intro k hk
    obtain ⟨x, hx, _, hc⟩ := hca k (.int .i64 (ns.getD k 0)) (by simp [iv, show k < ns.length by omega])
    exact ⟨x, hx, hc⟩
  have cb' : ∀ k, k < l → ∃ x, pb = some x ∧ w.cell? (x.add k) = some (.int .i64 (ns.getD k 0)) := by
    intro k hk
    obtain ⟨x, hx, _, hc⟩ := hcb k (.int .i64 (ns.getD k 0)) (by simp [iv, show k < ns.length by omega])
    exact ⟨x, hx, hc⟩
  have CA := hide ca'
  have CB := hide cb'
  clear hca hcb ca' cb' hn el
  go_enter Tryd.func9, Tryd.ntmps9
  go_wp2
  go_loopw [13] (fun i wr => ∃ k : Nat, k ≤ l ∧ i = .int .i64 k ∧ Keeps Nowhere w wr) (fun i _ => l - (intOf i).toNat)
  case atStart => exact ⟨0, Nat.zero_le _, rfl, Keeps.refl _ _⟩
  case round =>
    obtain ⟨k, hk, rfl, hb⟩ := hrel
    have HB := hide hb
    clear hb
    by_cases hkl : k < l
    · obtain ⟨x, rfl, hx⟩ := CA.out k hkl
      obtain ⟨y, rfl, hy⟩ := CB.out k hkl
      have cx : wr.cell? (x.add k) = some (.int .i64 (ns.getD k 0)) := by rw [HB.out.bel.cell (World.block_lt_of_cell? w _ hx)]; exact hx
      have cy : wr.cell? (y.add k) = some (.int .i64 (ns.getD k 0)) := by rw [HB.out.bel.cell (World.block_lt_of_cell? w _ hy)]; exact hy
      obtain ⟨u, hu⟩ : ∃ u, u = ns.getD k 0 := ⟨_, rfl⟩
      rw [← hu] at cx cy
      clear hx hy hu CA CB
      go_wp2_with fail
      go_region_held_law (fun w' => w'.cell? (x.add k) = some (.int .i64 u) ∧ w'.cell? (y.add k) = some (.int .i64 u)) (exact ⟨cx, cy⟩) (fail)
      go_wp2
      go_roundw
      case rel => exact ⟨k + 1, by omega, by go_num, HB.out.drew⟩
      case measure => simp [intOf]; omega
    · obtain rfl : k = l := by omega
      go_wp2
      go_ret
      exact ⟨rfl, HB.out⟩
end Go.Proofs.YtkmijhfimkcoiaaDoor
