/-
  the document's Text: the walk.
-/
import Derived.Test.YtnifiagkiphjfaaDoorTextD
import Derived.Laws.BitsLemmas
namespace Go.Proofs.YtnifiagkiphjfaaDoor
open Go.RowKit

theorem refFlag_q (W : World) (f b : Int) (wd : List UInt8) (hw : wd.length ≤ 100) (n : Nat) :
    Calls Tryd.prog 41 #[.int .u16 f, .int .u16 b, .string (str wd)] (W.drewN n) fun e w' => e = .returned (.string (str (flB f b wd))) ∧ ∃ m, w' = W.drewN m :=
  (refFlag_any f b wd hw (W.drewN n)).mono (by rintro e w' ⟨rfl, rfl⟩; exact ⟨rfl, n, rfl⟩)
theorem flB_len (f b : Int) (wd : List UInt8) : (flB f b wd).length ≤ wd.length + 1 := by unfold flB; split <;> simp
def flsB (f : Int) : List UInt8 := flB f 1 [115, 121, 110] ++ flB f 2 [97, 99, 107] ++ flB f 4 [102, 105, 110] ++ flB f 8 [114, 115, 116]
def furB (f : Int) : List UInt8 := if 15 < f then [32, 102, 108, 97, 103, 115, 32] ++ Lib.decDigits (f / 16 * 16).toNat else []
def verB (v : Int) : List UInt8 := if v = 0 then [] else [32, 118, 101, 114, 115, 105, 111, 110, 32] ++ Lib.decDigits v.toNat
def endB (s l : Int) : List UInt8 := [32, 115, 116, 114, 101, 97, 109, 32] ++ Lib.decDigits s.toNat ++ [32, 108, 101, 110, 103, 116, 104, 32] ++ Lib.decDigits l.toNat
def txB (v t f s l : Int) : List UInt8 := kiB t ++ verB v ++ flsB f ++ furB f ++ endB s l

structure RxAt (w : World) (v t f s l : Int) (wr : World) : Prop where
  h : HB w.heap.size v t f s l wr
  b : Below w.heap.size w wr
section
variable {w : World} {v t f s l : Int}
theorem RxAt.later {wr w' : World} (h : RxAt w v t f s l wr) (hb : Below wr.heap.size wr w') : RxAt w v t f s l w' := ⟨h.h.later hb, h.b.trans (hb.mono h.b.size)⟩
theorem digits_r (n : Int) (h0 : 0 ≤ n) (h1 : n ≤ 4294967295) (W : World) (h : Aside (RxAt w v t f s l W)) :
    Calls Tryd.prog 40 #[.int .i64 n] W fun e w' => e = .returned (.string (str (Lib.decDigits n.toNat))) ∧ Aside (RxAt w v t f s l w') := by
  obtain ⟨u, rfl⟩ := Int.eq_ofNat_of_zero_le h0
  exact (refDigits_any u (by omega) W).mono (by rintro e w' ⟨rfl, hb⟩; exact ⟨by simp, ⟨h.it.later hb⟩⟩)
theorem RxAt.cells {wr : World} (h : Aside (RxAt w v t f s l wr)) : wr.cell? ⟨w.heap.size, 3, none⟩ = some (.int .u32 s) ∧ wr.cell? ⟨w.heap.size, 4, none⟩ = some (.int .u32 l) := ⟨h.it.h.2.2.2.1, h.it.h.2.2.2.2⟩
end

set_option maxRecDepth 20000 in
set_option maxHeartbeats 1500000 in
theorem refText_walk (v t f s l : Int) (hv0 : 0 ≤ v) (hv1 : v ≤ 255) (ht0 : 0 ≤ t) (ht1 : t ≤ 255) (hf0 : 0 ≤ f) (hf1 : f ≤ 65535) (hs0 : 0 ≤ s) (hs1 : s ≤ 4294967295) (hl0 : 0 ≤ l) (hl1 : l ≤ 4294967295) (w : World) :
    Calls Tryd.prog 19 #[hdr v t f s l] w fun e w' => e = .returned (.string (str (txB v t f s l))) ∧ Below w.heap.size w w' := by
  have X0 : Aside (RxAt w v t f s l (w.alloc (hbox v t f s l))) := ⟨⟨HB.new w v t f s l, alloc_below _ _⟩⟩
  have KD := Aside.mk (refKind_any t ht0 ht1 (w.alloc (hbox v t f s l)))
  have hk := kiB_len t ht0 ht1
  have hdv := dd_len v (by omega)
  have hdf := dd_len (f / 16 * 16) (by omega)
  have hds := dd_len s hs1
  have hdl := dd_len l hl1
  obtain ⟨K, hK⟩ : ∃ K, Aside (kiB t = K) := ⟨_, ⟨rfl⟩⟩
  rw [hK.it] at KD hk
  go_enter Tryd.func19, Tryd.ntmps19
  go_wp2_with fail
  refine KD.it.mono ?_
  rintro e w1 ⟨rfl, K1⟩
  have X1 := Aside.mk (X0.it.later K1)
  have g0 := X1.it.h.1
  clear K1 KD X0
  by_cases hv : v = 0
  · have hv' : (v != 0) = false := by simp [hv]
    obtain ⟨K2, hK2⟩ : ∃ K2, Aside (K2 = K ++ verB v) := ⟨_, ⟨rfl⟩⟩
    have e2 : K2 = K := by rw [hK2.it]; simp [verB, hv]
    have hk2 : K2.length ≤ 60 := by rw [e2]; omega
    subst e2
    clear hv
    go_wp2_with fail
    have g2 := X1.it.h.2.2.1
    have a1 := flB_len f 1 [115, 121, 110]
    have a2 := flB_len f 2 [97, 99, 107]
    have a3 := flB_len f 4 [102, 105, 110]
    have a4 := flB_len f 8 [114, 115, 116]
    simp only [List.length_cons, List.length_nil] at a1 a2 a3 a4
    have z1 : ¬ 9223372036854775807 < K2.length + (flB f 1 [115, 121, 110]).length := by omega
    have z2 : ¬ 9223372036854775807 < K2.length + (flB f 1 [115, 121, 110]).length + (flB f 2 [97, 99, 107]).length := by omega
    have z3 : ¬ 9223372036854775807 < K2.length + (flB f 1 [115, 121, 110]).length + (flB f 2 [97, 99, 107]).length + (flB f 4 [102, 105, 110]).length := by omega
    have z4 : ¬ 9223372036854775807 < K2.length + (flB f 1 [115, 121, 110]).length + (flB f 2 [97, 99, 107]).length + (flB f 4 [102, 105, 110]).length + (flB f 8 [114, 115, 116]).length := by omega
    go_quiet ((go_at_call 41; exact refFlag_q w1 f _ _ (by decide) _))
    have E3 : str K2 ++ str (flB f 1 [115, 121, 110]) ++ str (flB f 2 [97, 99, 107]) ++ str (flB f 4 [102, 105, 110]) ++ str (flB f 8 [114, 115, 116]) = str (K2 ++ flsB f) := by
      rw [str_append, str_append, str_append, str_append]
      simp [flsB]
    have X3 : Aside (RxAt w v t f s l (w1.drewN nq)) := ⟨X1.it.later (below_drewN (Below.refl _ _) nq)⟩
    rw [E3]
    have hk3 : (K2 ++ flsB f).length ≤ 80 := by simp only [flsB, List.length_append]; omega
    obtain ⟨K3, hK3⟩ : ∃ K3, Aside (K3 = K2 ++ flsB f) := ⟨_, ⟨rfl⟩⟩
    rw [← hK3.it] at hk3 ⊢
    clear E3 z1 z2 z3 z4 a1 a2 a3 a4
    obtain ⟨W3, hW3⟩ : ∃ W3, W3 = w1.drewN nq := ⟨_, rfl⟩
    rw [← hW3] at X3 ⊢
    clear hW3
    have g2 := X3.it.h.2.2.1
    by_cases h15 : 15 < f
    · have EF := Aside.mk (show furB f = [32, 102, 108, 97, 103, 115, 32] ++ Lib.decDigits (f / 16 * 16).toNat from if_pos h15)
      have q1 : ¬ 9223372036854775807 < K3.length + 7 := by omega
      have q2 : ¬ 9223372036854775807 < K3.length + 7 + (Lib.decDigits (f / 16 * 16).toNat).length := by omega
      go_wp2_with (go_at_call 40; refine (digits_r (f / 16 * 16) (by omega) (by omega) _ X3).mono ?_; rintro e w5 ⟨rfl, X5⟩)
      have EK : str K3 ++ ⟨#[32, 102, 108, 97, 103, 115, 32]⟩ ++ str (Lib.decDigits (f / 16 * 16).toNat) = str (K3 ++ furB f) := by
        rw [EF.it]
        show str K3 ++ str [32, 102, 108, 97, 103, 115, 32] ++ str _ = _
        rw [str_append, str_append, List.append_assoc]
      rw [EK]
      have hk4 : (K3 ++ furB f).length ≤ 120 := by rw [EF.it]; simp only [List.length_append, List.length_cons, List.length_nil]; omega
      obtain ⟨K4, hK4⟩ : ∃ K4, Aside (K4 = K3 ++ furB f) := ⟨_, ⟨rfl⟩⟩
      rw [← hK4.it] at hk4 ⊢
      clear EK q1 q2 h15
      have X5d : Aside (RxAt w v t f s l w5.drew) := ⟨X5.it.later (Below.refl _ _).drew⟩
      have ws : IntKind.i64.wrap s = s := by rw [IntKind.wrap_i64]; omega
      have wl : IntKind.i64.wrap l = l := by rw [IntKind.wrap_i64]; omega
      have y1 : ¬ 9223372036854775807 < K4.length + 8 := by omega
      have y2 : ¬ 9223372036854775807 < K4.length + 8 + (Lib.decDigits s.toNat).length := by omega
      have y3 : ¬ 9223372036854775807 < K4.length + 8 + (Lib.decDigits s.toNat).length + 8 := by omega
      have y4 : ¬ 9223372036854775807 < K4.length + 8 + (Lib.decDigits s.toNat).length + 8 + (Lib.decDigits l.toNat).length := by omega
      go_region_held_law (fun w' => w'.cell? ⟨w.heap.size, 3, none⟩ = some (.int .u32 s) ∧ w'.cell? ⟨w.heap.size, 4, none⟩ = some (.int .u32 l))
        (exact RxAt.cells (by assumption)) ((go_at_call 40; refine (digits_r (v := v) (t := t) (f := f) (s := s) (l := l) _ (by assumption) (by assumption) _ (by assumption)).mono ?_; rintro e w6 ⟨rfl, X6⟩))
      all_goals go_wp2_with fail
      all_goals go_ret
      all_goals
        refine ⟨?_, X6.it.b⟩
        show Ending.returned (.string (str K4 ++ str [32, 115, 116, 114, 101, 97, 109, 32] ++ str (Lib.decDigits s.toNat) ++ str [32, 108, 101, 110, 103, 116, 104, 32] ++ str (Lib.decDigits l.toNat))) = _
        rw [str_append, str_append, str_append, str_append, txB, hK.it, ← hK2.it, ← hK3.it, ← hK4.it]
        simp [endB]
    · obtain ⟨K4, hK4⟩ : ∃ K4, Aside (K4 = K3 ++ furB f) := ⟨_, ⟨rfl⟩⟩
      have e4 : K4 = K3 := by rw [hK4.it]; simp [furB, h15]
      have hk4 : K4.length ≤ 120 := by rw [e4]; omega
      subst e4
      go_wp2_with fail
      have X3d : Aside (RxAt w v t f s l W3.drew) := ⟨X3.it.later (Below.refl _ _).drew⟩
      have ws : IntKind.i64.wrap s = s := by rw [IntKind.wrap_i64]; omega
      have wl : IntKind.i64.wrap l = l := by rw [IntKind.wrap_i64]; omega
      have y1 : ¬ 9223372036854775807 < K4.length + 8 := by omega
      have y2 : ¬ 9223372036854775807 < K4.length + 8 + (Lib.decDigits s.toNat).length := by omega
      have y3 : ¬ 9223372036854775807 < K4.length + 8 + (Lib.decDigits s.toNat).length + 8 := by omega
      have y4 : ¬ 9223372036854775807 < K4.length + 8 + (Lib.decDigits s.toNat).length + 8 + (Lib.decDigits l.toNat).length := by omega
      go_region_held_law (fun w' => w'.cell? ⟨w.heap.size, 3, none⟩ = some (.int .u32 s) ∧ w'.cell? ⟨w.heap.size, 4, none⟩ = some (.int .u32 l))
        (exact RxAt.cells (by assumption)) ((go_at_call 40; refine (digits_r (v := v) (t := t) (f := f) (s := s) (l := l) _ (by assumption) (by assumption) _ (by assumption)).mono ?_; rintro e w6 ⟨rfl, X6⟩))
      all_goals go_wp2_with fail
      all_goals go_ret
      all_goals
        refine ⟨?_, X6.it.b⟩
        show Ending.returned (.string (str K4 ++ str [32, 115, 116, 114, 101, 97, 109, 32] ++ str (Lib.decDigits s.toNat) ++ str [32, 108, 101, 110, 103, 116, 104, 32] ++ str (Lib.decDigits l.toNat))) = _
        rw [str_append, str_append, str_append, str_append, txB, hK.it, ← hK2.it, ← hK3.it, ← hK4.it]
        simp [endB]
  · have hv' : (v != 0) = true := by simp [hv]
    have EV := Aside.mk (show verB v = [32, 118, 101, 114, 115, 105, 111, 110, 32] ++ Lib.decDigits v.toNat from if_neg hv)
    have q1 : ¬ 9223372036854775807 < K.length + 9 := by omega
    have q2 : ¬ 9223372036854775807 < K.length + 9 + (Lib.decDigits v.toNat).length := by omega
    clear hv
    go_wp2_with (go_at_call 40; refine (digits_r v hv0 (by omega) _ X1).mono ?_; rintro e w2 ⟨rfl, X2⟩)
    have EK : str K ++ ⟨#[32, 118, 101, 114, 115, 105, 111, 110, 32]⟩ ++ str (Lib.decDigits v.toNat) = str (K ++ verB v) := by
      rw [EV.it]
      show str K ++ str [32, 118, 101, 114, 115, 105, 111, 110, 32] ++ str _ = _
      rw [str_append, str_append, List.append_assoc]
    rw [EK]
    have hk2 : (K ++ verB v).length ≤ 60 := by rw [EV.it]; simp only [List.length_append, List.length_cons, List.length_nil]; omega
    obtain ⟨K2, hK2⟩ : ∃ K2, Aside (K2 = K ++ verB v) := ⟨_, ⟨rfl⟩⟩
    rw [← hK2.it] at hk2 ⊢
    clear EK q1 q2
    have g2 := X2.it.h.2.2.1
    have a1 := flB_len f 1 [115, 121, 110]
    have a2 := flB_len f 2 [97, 99, 107]
    have a3 := flB_len f 4 [102, 105, 110]
    have a4 := flB_len f 8 [114, 115, 116]
    simp only [List.length_cons, List.length_nil] at a1 a2 a3 a4
    have z1 : ¬ 9223372036854775807 < K2.length + (flB f 1 [115, 121, 110]).length := by omega
    have z2 : ¬ 9223372036854775807 < K2.length + (flB f 1 [115, 121, 110]).length + (flB f 2 [97, 99, 107]).length := by omega
    have z3 : ¬ 9223372036854775807 < K2.length + (flB f 1 [115, 121, 110]).length + (flB f 2 [97, 99, 107]).length + (flB f 4 [102, 105, 110]).length := by omega
    have z4 : ¬ 9223372036854775807 < K2.length + (flB f 1 [115, 121, 110]).length + (flB f 2 [97, 99, 107]).length + (flB f 4 [102, 105, 110]).length + (flB f 8 [114, 115, 116]).length := by omega
    go_quiet ((go_at_call 41; exact refFlag_q w2 f _ _ (by decide) _))
    have E3 : str K2 ++ str (flB f 1 [115, 121, 110]) ++ str (flB f 2 [97, 99, 107]) ++ str (flB f 4 [102, 105, 110]) ++ str (flB f 8 [114, 115, 116]) = str (K2 ++ flsB f) := by
      rw [str_append, str_append, str_append, str_append]
      simp [flsB]
    have X3 : Aside (RxAt w v t f s l (w2.drewN nq)) := ⟨X2.it.later (below_drewN (Below.refl _ _) nq)⟩
    rw [E3]
    have hk3 : (K2 ++ flsB f).length ≤ 80 := by simp only [flsB, List.length_append]; omega
    obtain ⟨K3, hK3⟩ : ∃ K3, Aside (K3 = K2 ++ flsB f) := ⟨_, ⟨rfl⟩⟩
    rw [← hK3.it] at hk3 ⊢
    clear E3 z1 z2 z3 z4 a1 a2 a3 a4
    obtain ⟨W3, hW3⟩ : ∃ W3, W3 = w2.drewN nq := ⟨_, rfl⟩
    rw [← hW3] at X3 ⊢
    clear hW3
    have g2 := X3.it.h.2.2.1
    by_cases h15 : 15 < f
    · have EF := Aside.mk (show furB f = [32, 102, 108, 97, 103, 115, 32] ++ Lib.decDigits (f / 16 * 16).toNat from if_pos h15)
      have q1 : ¬ 9223372036854775807 < K3.length + 7 := by omega
      have q2 : ¬ 9223372036854775807 < K3.length + 7 + (Lib.decDigits (f / 16 * 16).toNat).length := by omega
      go_wp2_with (go_at_call 40; refine (digits_r (f / 16 * 16) (by omega) (by omega) _ X3).mono ?_; rintro e w5 ⟨rfl, X5⟩)
      have EK : str K3 ++ ⟨#[32, 102, 108, 97, 103, 115, 32]⟩ ++ str (Lib.decDigits (f / 16 * 16).toNat) = str (K3 ++ furB f) := by
        rw [EF.it]
        show str K3 ++ str [32, 102, 108, 97, 103, 115, 32] ++ str _ = _
        rw [str_append, str_append, List.append_assoc]
      rw [EK]
      have hk4 : (K3 ++ furB f).length ≤ 120 := by rw [EF.it]; simp only [List.length_append, List.length_cons, List.length_nil]; omega
      obtain ⟨K4, hK4⟩ : ∃ K4, Aside (K4 = K3 ++ furB f) := ⟨_, ⟨rfl⟩⟩
      rw [← hK4.it] at hk4 ⊢
      clear EK q1 q2 h15
      have X5d : Aside (RxAt w v t f s l w5.drew) := ⟨X5.it.later (Below.refl _ _).drew⟩
      have ws : IntKind.i64.wrap s = s := by rw [IntKind.wrap_i64]; omega
      have wl : IntKind.i64.wrap l = l := by rw [IntKind.wrap_i64]; omega
      have y1 : ¬ 9223372036854775807 < K4.length + 8 := by omega
      have y2 : ¬ 9223372036854775807 < K4.length + 8 + (Lib.decDigits s.toNat).length := by omega
      have y3 : ¬ 9223372036854775807 < K4.length + 8 + (Lib.decDigits s.toNat).length + 8 := by omega
      have y4 : ¬ 9223372036854775807 < K4.length + 8 + (Lib.decDigits s.toNat).length + 8 + (Lib.decDigits l.toNat).length := by omega
      go_region_held_law (fun w' => w'.cell? ⟨w.heap.size, 3, none⟩ = some (.int .u32 s) ∧ w'.cell? ⟨w.heap.size, 4, none⟩ = some (.int .u32 l))
        (exact RxAt.cells (by assumption)) ((go_at_call 40; refine (digits_r (v := v) (t := t) (f := f) (s := s) (l := l) _ (by assumption) (by assumption) _ (by assumption)).mono ?_; rintro e w6 ⟨rfl, X6⟩))
      all_goals go_wp2_with fail
      all_goals go_ret
      all_goals
        refine ⟨?_, X6.it.b⟩
        show Ending.returned (.string (str K4 ++ str [32, 115, 116, 114, 101, 97, 109, 32] ++ str (Lib.decDigits s.toNat) ++ str [32, 108, 101, 110, 103, 116, 104, 32] ++ str (Lib.decDigits l.toNat))) = _
        rw [str_append, str_append, str_append, str_append, txB, hK.it, ← hK2.it, ← hK3.it, ← hK4.it]
        simp [endB]
    · obtain ⟨K4, hK4⟩ : ∃ K4, Aside (K4 = K3 ++ furB f) := ⟨_, ⟨rfl⟩⟩
      have e4 : K4 = K3 := by rw [hK4.it]; simp [furB, h15]
      have hk4 : K4.length ≤ 120 := by rw [e4]; omega
      subst e4
      go_wp2_with fail
      have X3d : Aside (RxAt w v t f s l W3.drew) := ⟨X3.it.later (Below.refl _ _).drew⟩
      have ws : IntKind.i64.wrap s = s := by rw [IntKind.wrap_i64]; omega
      have wl : IntKind.i64.wrap l = l := by rw [IntKind.wrap_i64]; omega
      have y1 : ¬ 9223372036854775807 < K4.length + 8 := by omega
      have y2 : ¬ 9223372036854775807 < K4.length + 8 + (Lib.decDigits s.toNat).length := by omega
      have y3 : ¬ 9223372036854775807 < K4.length + 8 + (Lib.decDigits s.toNat).length + 8 := by omega
      have y4 : ¬ 9223372036854775807 < K4.length + 8 + (Lib.decDigits s.toNat).length + 8 + (Lib.decDigits l.toNat).length := by omega
      go_region_held_law (fun w' => w'.cell? ⟨w.heap.size, 3, none⟩ = some (.int .u32 s) ∧ w'.cell? ⟨w.heap.size, 4, none⟩ = some (.int .u32 l))
        (exact RxAt.cells (by assumption)) ((go_at_call 40; refine (digits_r (v := v) (t := t) (f := f) (s := s) (l := l) _ (by assumption) (by assumption) _ (by assumption)).mono ?_; rintro e w6 ⟨rfl, X6⟩))
      all_goals go_wp2_with fail
      all_goals go_ret
      all_goals
        refine ⟨?_, X6.it.b⟩
        show Ending.returned (.string (str K4 ++ str [32, 115, 116, 114, 101, 97, 109, 32] ++ str (Lib.decDigits s.toNat) ++ str [32, 108, 101, 110, 103, 116, 104, 32] ++ str (Lib.decDigits l.toNat))) = _
        rw [str_append, str_append, str_append, str_append, txB, hK.it, ← hK2.it, ← hK3.it, ← hK4.it]
        simp [endB]
end Go.Proofs.YtnifiagkiphjfaaDoor
