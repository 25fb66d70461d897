/-
  culvertref27's Held, Done, New: over what the document says of the bytes
-/
import Derived.Test.YtnocalkloinbbaaDoorMsD
namespace Go.Proofs.YtnocalkloinbbaaDoor
open Go.RowKit

section
variable {w : World} {most : Nat} {F : List Int}
theorem told27_field (a0 a1 a2 : Value) (w : World) : Sem.run Tryd.prog (Instr.field 50 (.agg #[a0, a1, a2]) 1) w = .ok a1 w := by kernel_rfl
set_option maxRecDepth 20000 in
set_option maxHeartbeats 2000000 in
theorem refHeld27 (q : Option Addr) (L c : Nat) (R : Rd w (.slice q L c) F) (hb : AreBytes F) (hL : F.length ≤ 16777216) (hm : most ≤ 1048576) :
    Calls Tryd.prog 11 #[.agg #[.int .i64 most, .slice q L c]] w fun e w' => e = .returned (.int .i64 (restM (parseM most F))) ∧ Aside (Below w.heap.size w w') := by
  obtain ⟨W0, hW0⟩ : ∃ W0, W0 = w.alloc (.cells #[.int .i64 most, .slice q L c] 31) := ⟨_, rfl⟩
  have k0 : Keeps Nowhere w W0 := by rw [hW0]; exact (Keeps.refl _ _).alloc _
  have C0 : Cells W0 w.heap.size 31 [.int .i64 most, .slice q L c] := by rw [hW0]; exact Cells.new w _ _
  have d0 : W0.cell? ⟨w.heap.size, 0, none⟩ = some (.int .i64 most) := by rw [C0.cell]; rfl
  have d1 : W0.cell? ⟨w.heap.size, 1, none⟩ = some (.slice q L c) := by rw [C0.cell]; rfl
  have SY := Aside.mk (say27 (w := W0) (most := most) q L c F (R.later k0.bel) hb hL hm)
  have K0 := Aside.mk k0
  have g1 : ¬ (most : Int) < 0 := by omega
  obtain ⟨n, hn⟩ : ∃ n, restM (parseM most F) = n := ⟨_, rfl⟩
  obtain ⟨b, hbd⟩ : ∃ b, (parseM most F).dead = b := ⟨_, rfl⟩
  rw [hn, hbd] at SY
  rw [hn]
  clear R hb hL C0 k0 hm hn hbd
  go_enter Tryd.func11, Tryd.ntmps11
  go_upto_region 1 with fail
  rw [← hW0]
  clear hW0
  go_wp2_with (first | (go_at_call 17; refine SY.it.mono ?_; clear SY; rintro e w1 ⟨fq, fl, fc, rfl, FR, B1⟩; have VF := told27_field (.slice fq fl fc) (.int .i64 n) (.bool b)) | fail)
  go_ret
  exact ⟨rfl, ⟨K0.it.bel.trans (B1.it.mono K0.it.size)⟩⟩
theorem refHeld27_nil (q : Option Addr) (L c : Nat) :
    Calls Tryd.prog 11 #[.agg #[.int .i64 (-1), .slice q L c]] w fun e w' => e = .returned (.int .i64 0) ∧ Aside (Below w.heap.size w w') := by
  obtain ⟨W0, hW0⟩ : ∃ W0, W0 = w.alloc (.cells #[.int .i64 (-1), .slice q L c] 31) := ⟨_, rfl⟩
  have k0 : Keeps Nowhere w W0 := by rw [hW0]; exact (Keeps.refl _ _).alloc _
  have C0 : Cells W0 w.heap.size 31 [.int .i64 (-1), .slice q L c] := by rw [hW0]; exact Cells.new w _ _
  have d0 : W0.cell? ⟨w.heap.size, 0, none⟩ = some (.int .i64 (-1)) := by rw [C0.cell]; rfl
  have K0 := Aside.mk k0.bel
  clear C0 k0
  go_enter Tryd.func11, Tryd.ntmps11
  go_upto_region 1 with fail
  rw [← hW0]
  clear hW0
  go_wp2
  go_ret
  exact ⟨rfl, K0⟩
/-- what Done answers -/
def doneM (o : MOut) : Int := if o.dead then 34 else if 0 < restM o then 3 else 0
set_option maxHeartbeats 2000000 in
theorem refDone27 (q : Option Addr) (L c : Nat) (R : Rd w (.slice q L c) F) (hb : AreBytes F) (hL : F.length ≤ 16777216) (hm : most ≤ 1048576) :
    Calls Tryd.prog 14 #[.agg #[.int .i64 most, .slice q L c]] w fun e w' => e = .returned (.int .i64 (doneM (parseM most F))) ∧ Aside (Below w.heap.size w w') := by
  obtain ⟨W0, hW0⟩ : ∃ W0, W0 = w.alloc (.cells #[.int .i64 most, .slice q L c] 31) := ⟨_, rfl⟩
  have k0 : Keeps Nowhere w W0 := by rw [hW0]; exact (Keeps.refl _ _).alloc _
  have C0 : Cells W0 w.heap.size 31 [.int .i64 most, .slice q L c] := by rw [hW0]; exact Cells.new w _ _
  have d0 : W0.cell? ⟨w.heap.size, 0, none⟩ = some (.int .i64 most) := by rw [C0.cell]; rfl
  have d1 : W0.cell? ⟨w.heap.size, 1, none⟩ = some (.slice q L c) := by rw [C0.cell]; rfl
  have SY := Aside.mk (say27 (w := W0) (most := most) q L c F (R.later k0.bel) hb hL hm)
  have K0 := Aside.mk k0
  have g1 : ¬ (most : Int) < 0 := by omega
  obtain ⟨n, hn⟩ : ∃ n, restM (parseM most F) = n := ⟨_, rfl⟩
  unfold doneM
  rw [hn] at SY ⊢
  have fin : ∀ (w1 w2 : World), Below W0.heap.size W0 w1 → Below w1.heap.size w1 w2 → Aside (Below w.heap.size w w2) := fun w1 w2 h1 h2 => ⟨k0.bel.trans ((h1.trans (h2.mono h1.size)).mono k0.size)⟩
  have FI := Aside.mk fin
  clear R hb hL C0 k0 hm hn fin
  cases hbd : (parseM most F).dead with
  | true =>
    rw [hbd] at SY
    clear hbd
    go_enter Tryd.func14, Tryd.ntmps14
    go_upto_region 1 with fail
    rw [← hW0]
    clear hW0
    go_wp2_with (first | (go_at_call 17; refine SY.it.mono ?_; clear SY; rintro e w1 ⟨fq, fl, fc, rfl, FR, B1⟩) | fail)
    go_ret
    exact ⟨rfl, FI.it _ _ B1.it (((Keeps.refl Nowhere w1).alloc _).bel)⟩
  | false =>
    rw [hbd] at SY
    clear hbd
    by_cases h0 : 0 < n
    · have g2 : (0 : Int) < (n : Int) := by omega
      go_enter Tryd.func14, Tryd.ntmps14
      go_upto_region 1 with fail
      rw [← hW0]
      clear hW0
      go_wp2_with (first | (go_at_call 17; refine SY.it.mono ?_; clear SY; rintro e w1 ⟨fq, fl, fc, rfl, FR, B1⟩) | fail)
      go_ret
      exact ⟨by simp, FI.it _ _ B1.it (((Keeps.refl Nowhere w1).alloc _).bel)⟩
    · have g2 : ¬ (0 : Int) < (n : Int) := by omega
      go_enter Tryd.func14, Tryd.ntmps14
      go_upto_region 1 with fail
      rw [← hW0]
      clear hW0
      go_wp2_with (first | (go_at_call 17; refine SY.it.mono ?_; clear SY; rintro e w1 ⟨fq, fl, fc, rfl, FR, B1⟩) | fail)
      go_ret
      exact ⟨by simp, FI.it _ _ B1.it (((Keeps.refl Nowhere w1).alloc _).bel)⟩
theorem refDone27_nil (q : Option Addr) (L c : Nat) :
    Calls Tryd.prog 14 #[.agg #[.int .i64 (-1), .slice q L c]] w fun e w' => e = .returned (.int .i64 1) ∧ Aside (Below w.heap.size w w') := by
  obtain ⟨W0, hW0⟩ : ∃ W0, W0 = w.alloc (.cells #[.int .i64 (-1), .slice q L c] 31) := ⟨_, rfl⟩
  have k0 : Keeps Nowhere w W0 := by rw [hW0]; exact (Keeps.refl _ _).alloc _
  have C0 : Cells W0 w.heap.size 31 [.int .i64 (-1), .slice q L c] := by rw [hW0]; exact Cells.new w _ _
  have d0 : W0.cell? ⟨w.heap.size, 0, none⟩ = some (.int .i64 (-1)) := by rw [C0.cell]; rfl
  have K0 := Aside.mk k0.bel
  clear C0 k0
  go_enter Tryd.func14, Tryd.ntmps14
  go_upto_region 1 with fail
  rw [← hW0]
  clear hW0
  go_wp2
  go_ret
  exact ⟨rfl, K0⟩
/-- the new result's box -/
theorem new27_box (x : Int) : ∃ W0, W0 = w.alloc (.cells #[.int .i64 0, .slice none 0 0] 31) ∧ (W0.cell? ⟨w.heap.size, 0, none⟩ = some (.int .i64 0) ∧ W0.cell? ⟨w.heap.size, 1, none⟩ = some (.slice none 0 0) ∧ W0.frozen? ⟨w.heap.size, 0, none⟩ = false ∧ W0.frozen? ⟨w.heap.size, 1, none⟩ = false) ∧
    (((W0.setCell ⟨w.heap.size, 0, none⟩ (.int .i64 x)).setCell ⟨w.heap.size, 1, none⟩ (.slice none 0 0)).cell? ⟨w.heap.size, 0, none⟩ = some (.int .i64 x) ∧ ((W0.setCell ⟨w.heap.size, 0, none⟩ (.int .i64 x)).setCell ⟨w.heap.size, 1, none⟩ (.slice none 0 0)).cell? ⟨w.heap.size, 1, none⟩ = some (.slice none 0 0)) ∧ Aside (Below w.heap.size w ((W0.setCell ⟨w.heap.size, 0, none⟩ (.int .i64 x)).setCell ⟨w.heap.size, 1, none⟩ (.slice none 0 0))) := by
  have C0 : Cells (w.alloc (.cells #[.int .i64 0, .slice none 0 0] 31)) w.heap.size 31 [.int .i64 0, .slice none 0 0] := Cells.new w _ _
  have k0 : Keeps Nowhere w (w.alloc (.cells #[.int .i64 0, .slice none 0 0] 31)) := (Keeps.refl _ _).alloc _
  have D := (C0.setCell 0 (.int .i64 x)).setCell 1 (.slice none 0 0)
  refine ⟨_, rfl, ⟨by rw [C0.cell]; rfl, by rw [C0.cell]; rfl, C0.frozen 0, C0.frozen 1⟩, ⟨by rw [D.cell]; rfl, by rw [D.cell]; rfl⟩, ⟨?_⟩⟩
  exact (k0.next (((Keeps.refl (fun k => k = w.heap.size) _).setCell ⟨w.heap.size, 0, none⟩ _ (fun _ => rfl)).setCell ⟨w.heap.size, 1, none⟩ _ (fun _ => rfl)) (fun k e hlt => by omega)).bel
theorem refNew27_ok (hm : most ≤ 1048576) : Calls Tryd.prog 6 #[.int .i64 most] w fun e w' => e = .returned (.tuple #[.agg #[.int .i64 most, .slice none 0 0], .int .i64 0]) ∧ Aside (Below w.heap.size w w') := by
  obtain ⟨W0, hW0, ⟨c0, c1, f0, f1⟩, ⟨y0, y1⟩, K⟩ := new27_box (w := w) (most : Int)
  have a1 : ¬ (most : Int) < 0 := by omega
  have a2 : ¬ (1048576 : Int) < most := by omega
  clear hm
  go_enter Tryd.func6, Tryd.ntmps6
  go_upto_region 1 with fail
  rw [← hW0]
  clear hW0
  go_wp2
  generalize ((W0.setCell ⟨w.heap.size, 0, none⟩ (.int .i64 most)).setCell ⟨w.heap.size, 1, none⟩ (.slice none 0 0)) = W1 at y0 y1 K ⊢
  refine bodyPost_ret (v := .tuple #[.agg #[.int .i64 most, .slice none 0 0], .int .i64 0]) (by simp [results, Tryd.results6, go_sem, y0, y1]) rfl ?_
  exact ⟨rfl, K⟩
theorem refNew27_bad {most : Int} (h : most < 0 ∨ 1048576 < most) : Calls Tryd.prog 6 #[.int .i64 most] w fun e w' => e = .returned (.tuple #[.agg #[.int .i64 (-1), .slice none 0 0], .int .i64 2]) ∧ Aside (Below w.heap.size w w') := by
  obtain ⟨W0, hW0, ⟨c0, c1, f0, f1⟩, ⟨y0, y1⟩, K⟩ := new27_box (w := w) (-1 : Int)
  by_cases a1 : most < 0
  · have g1 : decide (most < 0) = true := by simp [a1]
    clear h
    go_enter Tryd.func6, Tryd.ntmps6
    go_upto_region 1 with fail
    rw [← hW0]
    clear hW0
    go_wp2
    generalize ((W0.setCell ⟨w.heap.size, 0, none⟩ (.int .i64 (-1))).setCell ⟨w.heap.size, 1, none⟩ (.slice none 0 0)) = W1 at y0 y1 K ⊢
    refine bodyPost_ret (v := .tuple #[.agg #[.int .i64 (-1), .slice none 0 0], .int .i64 2]) (by simp [results, Tryd.results6, go_sem, y0, y1]) rfl ?_
    exact ⟨rfl, K⟩
  · have a2 : 1048576 < most := by omega
    clear h
    go_enter Tryd.func6, Tryd.ntmps6
    go_upto_region 1 with fail
    rw [← hW0]
    clear hW0
    go_wp2
    generalize ((W0.setCell ⟨w.heap.size, 0, none⟩ (.int .i64 (-1))).setCell ⟨w.heap.size, 1, none⟩ (.slice none 0 0)) = W1 at y0 y1 K ⊢
    refine bodyPost_ret (v := .tuple #[.agg #[.int .i64 (-1), .slice none 0 0], .int .i64 2]) (by simp [results, Tryd.results6, go_sem, y0, y1]) rfl ?_
    exact ⟨rfl, K⟩
end
end Go.Proofs.YtnocalkloinbbaaDoor
