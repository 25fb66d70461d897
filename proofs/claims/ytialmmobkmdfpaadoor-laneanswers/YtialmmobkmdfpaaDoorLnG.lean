/-
  package lane: Frame
-/
import Derived.Test.YtialmmobkmdfpaaDoorLnD
namespace Go.Proofs.YtialmmobkmdfpaaDoor
open Go.RowKit

variable {A : Nat → Addr} {w w' w0 : World}

abbrev fv6 (ty fl : Int) (s v : Int) : List Value := [.int .u8 0, .int .u8 ty, .int .u16 fl, .int .u32 s, .int .u32 v, .slice none 0 0]
def fr6 (t : Tk) : List Value := if mayT t = 0 then fv6 (shF t.k.toNat) (shG t.k.toNat) t.s t.v else fv6 0 0 0 0
abbrev fbox6 (ty fl : Int) (s v : Int) : Obj := .cells #[.int .u8 0, .int .u8 ty, .int .u16 fl, .int .u32 s, .int .u32 v, .slice none 0 0] 57

set_option maxHeartbeats 1000000 in
theorem frameT (t : Tk) (ht : t.Wide) (h : St11 A w) :
    Calls Tryd.prog 22 #[tkv t.k t.s t.v] w fun e w' => ∃ x, e = .returned (.tuple #[.agg (fr6 t).toArray, x]) ∧ Hid (Coded A x (mayT t : Nat)) ∧ Aside (Keeps Nowhere w w') := by
  obtain ⟨W0, hW0⟩ : ∃ W0, W0 = (w.alloc (tbox t.k t.s t.v)).alloc (fbox6 0 0 0 0) := ⟨_, rfl⟩
  have K0 : Aside (Keeps Nowhere w W0) := ⟨by rw [hW0]; exact ((Keeps.refl _ _).alloc _).alloc _⟩
  have C0 : Aside (Cells W0 w.heap.size 30 (tcells t)) := ⟨by rw [hW0]; exact (tbox_new w _ _ _).later (S := Nowhere) ((Keeps.refl _ _).alloc _) (fun x => x)⟩
  have D0 : Aside (Cells W0 (w.heap.size + 1) 57 (fv6 0 0 0 0)) := ⟨by
    have h := Cells.new (w.alloc (tbox t.k t.s t.v)) 57 (fv6 0 0 0 0)
    rw [World.size_alloc] at h
    rw [hW0]; exact h⟩
  have CK := Aside.mk (checkT_any (A := A) t ht (h.quiet K0.it))
  have G0 := Aside.mk (h.quiet K0.it)
  obtain ⟨b0, b1, b2⟩ := TB.of C0.it
  clear h
  go_enter Tryd.func22, Tryd.ntmps22
  go_upto_region 1 with fail
  rw [show (w.alloc (.cells #[.int .i64 t.k, .int .u32 t.s, .int .u32 t.v] 30)).alloc (.cells #[.int .u8 0, .int .u8 0, .int .u16 0, .int .u32 0, .int .u32 0, .slice none 0 0] 57) = W0 from hW0.symm]
  clear hW0
  go_upto_region 2 with (first | (go_at_call 34; refine CK.it.mono ?_; rintro e w1 ⟨x, rfl, hx, k1⟩) | fail)
  have K1 := Aside.mk k1
  have D1 := Aside.mk (D0.it.later k1 (fun x => x))
  have C1 := Aside.mk (C0.it.later k1 (fun x => x))
  clear k1 b0 b1 b2
  by_cases hmay : mayT t = 0
  · rw [hmay] at hx
    obtain rfl := Coded.zero hx
    obtain ⟨hS, hN, hN8⟩ := shS_single t hmay
    have HF : Aside (fr6 t = fv6 (shF t.k.toNat) (shG t.k.toNat) t.s t.v) := ⟨by rw [fr6, if_pos hmay]⟩
    have HM := Aside.mk hmay
    obtain ⟨n, hn⟩ : ∃ n, n = t.k.toNat := ⟨_, rfl⟩
    rw [← hn] at HF hN hN8
    obtain ⟨c0, c1, c2, c3, c4, c5⟩ := (G0.it.quiet K1.it).tab n hN8
    obtain ⟨b0, b1, b2⟩ := TB.of C1.it
    rw [← hN] at b0
    obtain ⟨o, hO⟩ : ∃ o, o = shO n := ⟨_, rfl⟩
    obtain ⟨l, hL⟩ : ∃ l, l = shL n := ⟨_, rfl⟩
    obtain ⟨m, hM⟩ : ∃ m, m = shM n := ⟨_, rfl⟩
    obtain ⟨f, hFf⟩ : ∃ f, f = shF n := ⟨_, rfl⟩
    obtain ⟨g, hG⟩ : ∃ g, g = shG n := ⟨_, rfl⟩
    obtain ⟨b, hB⟩ : ∃ b, b = shS n := ⟨_, rfl⟩
    rw [← hFf] at c0 HF
    rw [← hG] at c1 HF
    rw [← hO] at c2
    rw [← hL] at c3
    rw [← hM] at c4
    rw [← hB] at c5
    obtain ⟨W1, hW1⟩ : ∃ W1, W1 = w1.alloc (.cells #[.int .u8 f, .int .u16 g, .bool o, .int .u32 l, .int .u32 m, .bool b] 93) := ⟨_, rfl⟩
    have K2 : Aside (Keeps Nowhere w1 W1) := ⟨by rw [hW1]; exact (Keeps.refl _ _).alloc _⟩
    have E1 : Aside (Cells W1 w1.heap.size 93 [.int .u8 f, .int .u16 g, .bool o, .int .u32 l, .int .u32 m, .bool b]) := ⟨by rw [hW1]; exact Cells.new w1 _ _⟩
    have D2 := Aside.mk (D1.it.later K2.it (fun x => x))
    obtain ⟨d0, d1, d2⟩ := TB.of (C1.it.later K2.it (fun x => x))
    have x0 : W1.cell? ⟨w1.heap.size, 0, none⟩ = some (.int .u8 f) := by rw [E1.it.cell]; rfl
    have x1 : W1.cell? ⟨w1.heap.size, 1, none⟩ = some (.int .u16 g) := by rw [E1.it.cell]; rfl
    have r0 : W1.cell? ⟨w.heap.size + 1, 0, none⟩ = some (.int .u8 0) := by rw [D2.it.cell]; rfl
    have r1 : W1.cell? ⟨w.heap.size + 1, 1, none⟩ = some (.int .u8 0) := by rw [D2.it.cell]; rfl
    have r2 : W1.cell? ⟨w.heap.size + 1, 2, none⟩ = some (.int .u16 0) := by rw [D2.it.cell]; rfl
    have r3 : W1.cell? ⟨w.heap.size + 1, 3, none⟩ = some (.int .u32 0) := by rw [D2.it.cell]; rfl
    have r4 : W1.cell? ⟨w.heap.size + 1, 4, none⟩ = some (.int .u32 0) := by rw [D2.it.cell]; rfl
    have r5 : W1.cell? ⟨w.heap.size + 1, 5, none⟩ = some (.slice none 0 0) := by rw [D2.it.cell]; rfl
    have g0 := D2.it.frozen 0
    have g1 := D2.it.frozen 1
    have g2 := D2.it.frozen 2
    have g3 := D2.it.frozen 3
    have g4 := D2.it.frozen 4
    have g5 := D2.it.frozen 5
    have i2 : (n : Int) < 8 := by omega
    have i3 : (0 : Int) ≤ n := by omega
    obtain ⟨W4, hW4⟩ : ∃ W4, W4 = (((((W1.setCell ⟨w.heap.size + 1, 0, none⟩ (.int .u8 0)).setCell ⟨w.heap.size + 1, 1, none⟩ (.int .u8 f)).setCell ⟨w.heap.size + 1, 2, none⟩ (.int .u16 g)).setCell ⟨w.heap.size + 1, 3, none⟩ (.int .u32 t.s)).setCell ⟨w.heap.size + 1, 4, none⟩ (.int .u32 t.v)).setCell ⟨w.heap.size + 1, 5, none⟩ (.slice none 0 0) := ⟨_, rfl⟩
    have hC : Cells W4 (w.heap.size + 1) 57 (fv6 f g t.s t.v) := by
      rw [hW4]
      exact (((((D2.it.setCell 0 (.int .u8 0)).setCell 1 (.int .u8 f)).setCell 2 (.int .u16 g)).setCell 3 (.int .u32 t.s)).setCell 4 (.int .u32 t.v)).setCell 5 (.slice none 0 0)
    have hK : Keeps (fun k => k = w.heap.size + 1) W1 W4 := by
      rw [hW4]
      exact ((((((Keeps.refl (fun k => k = w.heap.size + 1) W1).setCell ⟨w.heap.size + 1, 0, none⟩ _ (fun _ => rfl)).setCell ⟨w.heap.size + 1, 1, none⟩ _ (fun _ => rfl)).setCell ⟨w.heap.size + 1, 2, none⟩ _ (fun _ => rfl)).setCell ⟨w.heap.size + 1, 3, none⟩ _ (fun _ => rfl)).setCell ⟨w.heap.size + 1, 4, none⟩ _ (fun _ => rfl)).setCell ⟨w.heap.size + 1, 5, none⟩ _ (fun _ => rfl)
    have KK : Aside (Keeps Nowhere w W4) := ⟨((K0.it.trans K1.it).trans K2.it).next hK (fun k hk hlt => by omega)⟩
    have y0 : W4.cell? ⟨w.heap.size + 1, 0, none⟩ = some (.int .u8 0) := by rw [hC.cell]; rfl
    have y1 : W4.cell? ⟨w.heap.size + 1, 1, none⟩ = some (.int .u8 f) := by rw [hC.cell]; rfl
    have y2 : W4.cell? ⟨w.heap.size + 1, 2, none⟩ = some (.int .u16 g) := by rw [hC.cell]; rfl
    have y3 : W4.cell? ⟨w.heap.size + 1, 3, none⟩ = some (.int .u32 t.s) := by rw [hC.cell]; rfl
    have y4 : W4.cell? ⟨w.heap.size + 1, 4, none⟩ = some (.int .u32 t.v) := by rw [hC.cell]; rfl
    have y5 : W4.cell? ⟨w.heap.size + 1, 5, none⟩ = some (.slice none 0 0) := by rw [hC.cell]; rfl
    clear hx hmay hS hN hN8 hn hO hL hM hFf hG hB hC hK
    go_upto_region 5 with fail
    all_goals (try (exfalso; omega))
    rw [← hW1]
    clear hW1 c0 c1 c2 c3 c4 c5 b0 b1 b2
    go_wp2
    rw [← hW4]
    refine bodyPost_ret (by simp [results, Tryd.results22, go_sem, y0, y1, y2, y3, y4, y5]; rfl) rfl ?_
    refine ⟨.nilIface, ?_, ?_, KK⟩
    · rw [HF.it]
    · rw [HM.it]
      exact hide Coded.none
  · obtain ⟨a, rfl⟩ := Coded.pos hx (by omega)
    have HF : Aside (fr6 t = fv6 0 0 0 0) := ⟨by rw [fr6, if_neg hmay]⟩
    have r0 : w1.cell? ⟨w.heap.size + 1, 0, none⟩ = some (.int .u8 0) := by rw [D1.it.cell]; rfl
    have r1 : w1.cell? ⟨w.heap.size + 1, 1, none⟩ = some (.int .u8 0) := by rw [D1.it.cell]; rfl
    have r2 : w1.cell? ⟨w.heap.size + 1, 2, none⟩ = some (.int .u16 0) := by rw [D1.it.cell]; rfl
    have r3 : w1.cell? ⟨w.heap.size + 1, 3, none⟩ = some (.int .u32 0) := by rw [D1.it.cell]; rfl
    have r4 : w1.cell? ⟨w.heap.size + 1, 4, none⟩ = some (.int .u32 0) := by rw [D1.it.cell]; rfl
    have r5 : w1.cell? ⟨w.heap.size + 1, 5, none⟩ = some (.slice none 0 0) := by rw [D1.it.cell]; rfl
    have g0 := D1.it.frozen 0
    have g1 := D1.it.frozen 1
    have g2 := D1.it.frozen 2
    have g3 := D1.it.frozen 3
    have g4 := D1.it.frozen 4
    have g5 := D1.it.frozen 5
    obtain ⟨W4, hW4⟩ : ∃ W4, W4 = (((((w1.setCell ⟨w.heap.size + 1, 0, none⟩ (.int .u8 0)).setCell ⟨w.heap.size + 1, 1, none⟩ (.int .u8 0)).setCell ⟨w.heap.size + 1, 2, none⟩ (.int .u16 0)).setCell ⟨w.heap.size + 1, 3, none⟩ (.int .u32 0)).setCell ⟨w.heap.size + 1, 4, none⟩ (.int .u32 0)).setCell ⟨w.heap.size + 1, 5, none⟩ (.slice none 0 0) := ⟨_, rfl⟩
    have hC : Cells W4 (w.heap.size + 1) 57 (fv6 0 0 0 0) := by
      rw [hW4]
      exact (((((D1.it.setCell 0 (.int .u8 0)).setCell 1 (.int .u8 0)).setCell 2 (.int .u16 0)).setCell 3 (.int .u32 0)).setCell 4 (.int .u32 0)).setCell 5 (.slice none 0 0)
    have hK : Keeps (fun k => k = w.heap.size + 1) w1 W4 := by
      rw [hW4]
      exact ((((((Keeps.refl (fun k => k = w.heap.size + 1) w1).setCell ⟨w.heap.size + 1, 0, none⟩ _ (fun _ => rfl)).setCell ⟨w.heap.size + 1, 1, none⟩ _ (fun _ => rfl)).setCell ⟨w.heap.size + 1, 2, none⟩ _ (fun _ => rfl)).setCell ⟨w.heap.size + 1, 3, none⟩ _ (fun _ => rfl)).setCell ⟨w.heap.size + 1, 4, none⟩ _ (fun _ => rfl)).setCell ⟨w.heap.size + 1, 5, none⟩ _ (fun _ => rfl)
    have KK : Aside (Keeps Nowhere w W4) := ⟨(K0.it.trans K1.it).next hK (fun k hk hlt => by omega)⟩
    have y0 : W4.cell? ⟨w.heap.size + 1, 0, none⟩ = some (.int .u8 0) := by rw [hC.cell]; rfl
    have y1 : W4.cell? ⟨w.heap.size + 1, 1, none⟩ = some (.int .u8 0) := by rw [hC.cell]; rfl
    have y2 : W4.cell? ⟨w.heap.size + 1, 2, none⟩ = some (.int .u16 0) := by rw [hC.cell]; rfl
    have y3 : W4.cell? ⟨w.heap.size + 1, 3, none⟩ = some (.int .u32 0) := by rw [hC.cell]; rfl
    have y4 : W4.cell? ⟨w.heap.size + 1, 4, none⟩ = some (.int .u32 0) := by rw [hC.cell]; rfl
    have y5 : W4.cell? ⟨w.heap.size + 1, 5, none⟩ = some (.slice none 0 0) := by rw [hC.cell]; rfl
    clear hmay hC hK
    go_wp2
    rw [← hW4]
    refine bodyPost_ret (by simp [results, Tryd.results22, go_sem, y0, y1, y2, y3, y4, y5]; rfl) rfl ?_
    refine ⟨_, ?_, hx, KK⟩
    rw [HF.it]
end Go.Proofs.YtialmmobkmdfpaaDoor
