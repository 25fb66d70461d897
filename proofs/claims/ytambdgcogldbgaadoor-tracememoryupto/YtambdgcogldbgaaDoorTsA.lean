/-
  culvertlaw24: sameKeys, tells
-/
import Derived.Test.YtambdgcogldbgaaDoorTxx
namespace Go.Proofs.YtambdgcogldbgaaDoor
open Go.RowKit Go.Maps

variable {A : Nat → Addr} {w w' W w1 w2 : World} {own own' : Nat → Nat} {v : Value} {U : Ds} {I : Nat → Prop} {k : Int} {d : Dr} {T p i : Nat} {ns : List Int} {sl : Value} {rb : Nat}
theorem mdl_key {j : Nat} {y : Dr} (h : U[j]? = some y) : (tk (mdl U))[j]? = some y.k := by simp [tk, mdl, h]
set_option maxHeartbeats 1000000 in
theorem sameKeys_at {kv : Value} (h : RdD own w v U) (hl : U.length ≤ 1073741824) (hk : RdI w kv (tk (mdl U))) :
    Calls Tryd.prog 16 #[kv, .agg #[v]] w fun e w' => e = .returned (.bool true) ∧ Aside (Keeps Nowhere w w') := by
  obtain ⟨a, c, rfl, hlc, hc⟩ := h.s
  obtain ⟨pa, ca, rfl, hla, hma, hca⟩ := hk
  obtain ⟨n, hn⟩ : ∃ n, U.length = n := ⟨_, rfl⟩
  have HN := Aside.mk hn
  have htk : (tk (mdl U)).length = n := by simp [tk, mdl, hn]
  rw [htk] at hla ⊢
  rw [hn] at hlc hl ⊢
  obtain ⟨bx, hbx⟩ : ∃ bx, w.heap.size = bx := ⟨_, rfl⟩
  obtain ⟨W1, hW1⟩ : ∃ W1, w.alloc (.cells #[.slice a n c] 28) = W1 := ⟨_, rfl⟩
  have K1 : Aside (Keeps Nowhere w W1) := ⟨by rw [← hW1]; exact (Keeps.refl _ _).alloc _⟩
  have C1 : Aside (Cells W1 bx 28 [.slice a n c]) := ⟨by rw [← hW1, ← hbx]; exact Cells.new w _ _⟩
  have HC := Aside.mk hc
  have HCA := Aside.mk hca
  have d1 : W1.cell? ⟨bx, 0, none⟩ = some (.slice a n c) := by rw [C1.it.cell]; rfl
  clear hc hca hn h htk hma
  go_enter Tryd.func16, Tryd.ntmps16
  go_upto_region 1 with fail
  clear hW1 hbx
  go_wp2_with fail
  go_loopw [14] (fun iv wr => ∃ j : Nat, iv = .int .i64 j ∧ j ≤ n ∧ Aside (Keeps Nowhere W1 wr)) (fun iv _ => n - natOfT iv)
  case atStart => exact ⟨0, rfl, Nat.zero_le _, ⟨Keeps.refl _ _⟩⟩
  case round =>
    obtain ⟨j, rfl, hj, KJ⟩ := hrel
    rcases Nat.eq_or_lt_of_le hj with rfl | hlt
    · go_wp2_with fail
      go_ret
      exact ⟨rfl, ⟨K1.it.trans KJ.it⟩⟩
    · obtain ⟨y, hy⟩ : ∃ y, U[j]? = some y := ⟨_, List.getElem?_eq_getElem (by rw [HN.it]; exact hlt)⟩
      obtain ⟨g, rfl, _, hrow⟩ := HC.it j y hy
      obtain ⟨_, g2, o2, rfl, hcell⟩ := HCA.it j y.k (mdl_key hy)
      have d0 : wr.cell? ⟨bx, 0, none⟩ = some (.slice (some ⟨g, 0, none⟩) n c) := by rw [(C1.it.later KJ.it (fun x => x)).cell]; rfl
      have z0 := (hrow.later (K1.it.trans KJ.it) (fun x => x)).1
      have u0 : wr.cell? ⟨g2, o2 + j, none⟩ = some (.int .i64 y.k) := by rw [(K1.it.trans KJ.it).bel.cell (World.block_lt_of_cell? w _ hcell)]; exact hcell
      have s3 : (j : Int) < (n : Int) := by omega
      clear hy hrow hcell d1
      go_upto_region 6 with fail
      go_quiet (fail)
      go_wp2_with fail
      go_roundw
      case rel => exact ⟨j + 1, by go_num, by omega, ⟨KJ.it.trans ((Keeps.refl _ _).drewN _)⟩⟩
      case measure => simp [natOfT]; omega
end Go.Proofs.YtambdgcogldbgaaDoor
