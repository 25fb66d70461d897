/-
  the document's grant
-/
import Derived.Test.YtkkfjbjlggkhiaaDoorGrantC
import Derived.Test.YtkkfjbjlggkhiaaDoorOpenG
import Derived.Deep.DeepCutAuto
namespace Go.Proofs.YtkkfjbjlggkhiaaDoor
open Go.RowKit

section
variable {w w' : World} {W C R T l u o : Int}
/-- the document's counts are the differences, round the integers' end -/
structure Cnt8 (W C R T l u o : Int) : Prop where
  l : wrap64 (wrap64 (W - C) + T) = l
  u : wrap64 (C - R) = u
  o : wrap64 (R - T) = o
abbrev ref8 (W C R T : Int) : Value := .agg #[.int .i64 W, .int .i64 C, .int .i64 R, .int .i64 T]
theorem ref8New_ok (n : Int) (w : World) (h1 : 1 ≤ n) (h2 : n ≤ 2147483647) :
    Calls Tryd.prog 14 #[.int .i64 n] w fun e w' => e = .returned (.tuple #[ref8 n 0 0 0, .int .i64 0]) ∧ Aside (Keeps Nowhere w w') := by
  have a1 : ¬ n < 1 := by omega
  have a2 : ¬ 2147483647 < n := by omega
  go_enter Tryd.func14, Tryd.ntmps14
  go_wp2
  go_returns
  exact ⟨rfl, ⟨Keeps.ofBelow (by go_grown)⟩⟩
theorem ref8New_no (n : Int) (w : World) (h : n < 1 ∨ 2147483647 < n) :
    Calls Tryd.prog 14 #[.int .i64 n] w fun e w' => e = .returned (.tuple #[ref8 0 0 0 0, .int .i64 2]) ∧ Aside (Keeps Nowhere w w') := by
  rcases h with h | h
  · go_enter Tryd.func14, Tryd.ntmps14
    go_wp2
    go_returns
    exact ⟨rfl, ⟨Keeps.ofBelow (by go_grown)⟩⟩
  · have h0' : ¬ n < 1 := by omega
    go_enter Tryd.func14, Tryd.ntmps14
    go_wp2
    go_returns
    exact ⟨rfl, ⟨Keeps.ofBelow (by go_grown)⟩⟩
theorem ref8Thr (n : Int) (w : World) : Calls Tryd.prog 15 #[.int .i64 n] w fun e w' => e = .returned (.int .i64 (thr n)) ∧ w' = w := by
  by_cases h0 : n < 1
  · rw [thr_out (.inl h0)]
    go_enter Tryd.func15, Tryd.ntmps15
    go_wp2
    go_ret
    exact ⟨rfl, rfl⟩
  · by_cases h1 : 2147483647 < n
    · rw [thr_out (.inr h1)]
      go_enter Tryd.func15, Tryd.ntmps15
      go_wp2
      go_ret
      exact ⟨rfl, rfl⟩
    · rw [thr_in (by omega) (by omega)]
      have e1 : n.tdiv 2 = n / 2 := Int.tdiv_eq_ediv_of_nonneg (by omega)
      have e2 : n - n / 2 = (n + 1) / 2 := by omega
      go_enter Tryd.func15, Tryd.ntmps15
      go_wp2
      go_ret
      exact ⟨by first | rfl | rw [← e2], rfl⟩
theorem ref8Left (w : World) (h : Cnt8 W C R T l u o) : Calls Tryd.prog 32 #[ref8 W C R T] w fun e w' => e = .returned (.int .i64 l) ∧ w' = w.alloc (.cells #[.int .i64 W, .int .i64 C, .int .i64 R, .int .i64 T] 33) := by
  have hl := h.l
  clear h
  go_enter Tryd.func32, Tryd.ntmps32
  go_wp2
  go_ret
  exact ⟨by rw [← hl]; rfl, rfl⟩
theorem ref8Unread (w : World) (h : Cnt8 W C R T l u o) : Calls Tryd.prog 34 #[ref8 W C R T] w fun e w' => e = .returned (.int .i64 u) ∧ w' = w.alloc (.cells #[.int .i64 W, .int .i64 C, .int .i64 R, .int .i64 T] 33) := by
  have hl := h.u
  clear h
  go_enter Tryd.func34, Tryd.ntmps34
  go_wp2
  go_ret
  exact ⟨by rw [← hl]; rfl, rfl⟩
theorem ref8Owed (w : World) (h : Cnt8 W C R T l u o) : Calls Tryd.prog 35 #[ref8 W C R T] w fun e w' => e = .returned (.int .i64 o) ∧ w' = w.alloc (.cells #[.int .i64 W, .int .i64 C, .int .i64 R, .int .i64 T] 33) := by
  have hl := h.o
  clear h
  go_enter Tryd.func35, Tryd.ntmps35
  go_wp2
  go_ret
  exact ⟨by rw [← hl]; rfl, rfl⟩
theorem Cnt8.arrive {n : Int} (h : Cnt8 W C R T l u o) (h0 : 0 ≤ n) (h1 : n ≤ l) (hl : l ≤ 2147483647) (hu : 0 ≤ u) (hu2 : u + l ≤ 2147483647) : Cnt8 W (wrap64 (C + n)) R T (l - n) (u + n) o := by
  obtain ⟨a, b, c⟩ := h
  refine ⟨?_, ?_, c⟩
  · unfold wrap64 at *; omega
  · unfold wrap64 at *; omega
theorem Cnt8.less {n : Int} (h : Cnt8 W C R T l u o) (h0 : 0 ≤ n) (h1 : n ≤ u) (ho : 0 ≤ o) (hu2 : u + o ≤ 2147483647) : Cnt8 W C (wrap64 (R + n)) T l (u - n) (o + n) := by
  obtain ⟨a, b, c⟩ := h
  refine ⟨a, ?_, ?_⟩
  · unfold wrap64 at *; omega
  · unfold wrap64 at *; omega
theorem Cnt8.all (h : Cnt8 W C R T l u o) (hl : 0 ≤ l) (ho : 0 ≤ o) (hlo : l + o ≤ 2147483647) : Cnt8 W C R R (l + o) u 0 := by
  obtain ⟨a, b, c⟩ := h
  refine ⟨?_, b, ?_⟩
  · unfold wrap64 at *; omega
  · unfold wrap64; omega
set_option maxRecDepth 20000 in
theorem ref8Arrive (n : Int) (w : World) (h : Cnt8 W C R T l u o) (hW : 1 ≤ W) (_hl : 0 ≤ l) (hu : 0 ≤ u) (hs : u + l ≤ 2147483647) :
    Calls Tryd.prog 16 #[ref8 W C R T, .int .i64 n] w fun e w' => ∃ C', e = .returned (.tuple #[ref8 W C' R T, .int .i64 (arE l n)]) ∧ Aside (Cnt8 W C' R T (arL l n) (arU l u n) o ∧ Keeps Nowhere w w') := by
  have hW0 : ¬ W = 0 := by omega
  unfold arE arL arU
  by_cases h0 : n < 0
  · simp only [if_pos h0]
    go_enter Tryd.func16, Tryd.ntmps16
    go_wp2
    go_returns
    exact ⟨C, rfl, ⟨h, Keeps.ofBelow (by go_grown)⟩⟩
  · simp only [if_neg h0]
    have L := Aside.mk (fun w => ref8Left w h)
    have H := Aside.mk h
    clear h
    by_cases h1 : l < n
    · simp only [if_pos h1]
      go_enter Tryd.func16, Tryd.ntmps16
      go_wp2_with (first | (go_at_call 32; refine (L.it _).mono ?_; rintro e w' ⟨rfl, rfl⟩) | fail)
      go_returns
      exact ⟨C, rfl, ⟨H.it, Keeps.ofBelow (by go_grown)⟩⟩
    · simp only [if_neg h1]
      go_enter Tryd.func16, Tryd.ntmps16
      go_wp2_with (first | (go_at_call 32; refine (L.it _).mono ?_; rintro e w' ⟨rfl, rfl⟩) | fail)
      go_returns
      exact ⟨wrap64 (C + n), rfl, ⟨H.it.arrive (by omega) (by omega) (by omega) hu hs, Keeps.ofBelow (by go_grown)⟩⟩
set_option maxRecDepth 20000 in
theorem ref8Read (n : Int) (w : World) (h : Cnt8 W C R T l u o) (hW : 1 ≤ W) (hW2 : W ≤ 2147483647) (hl : 0 ≤ l) (_hu : 0 ≤ u) (ho : 0 ≤ o) (hs : l + u + o = W) :
    Calls Tryd.prog 18 #[ref8 W C R T, .int .i64 n] w fun e w' => ∃ R' T', e = .returned (.tuple #[ref8 W C R' T', .int .i64 (rdG W u o n), .int .i64 (rdE u n)]) ∧ Aside (Cnt8 W C R' T' (l + rdG W u o n) (rdU u n) (rdO W u o n) ∧ Keeps Nowhere w w') := by
  have hW0 : ¬ W = 0 := by omega
  unfold rdG rdU rdO rdE
  by_cases h0 : n < 0
  · simp only [if_pos h0, Int.add_zero]
    go_enter Tryd.func18, Tryd.ntmps18
    go_wp2
    go_returns
    exact ⟨R, T, rfl, ⟨h, Keeps.ofBelow (by go_grown)⟩⟩
  · simp only [if_neg h0]
    have L := Aside.mk (fun w => ref8Unread w h)
    have H := Aside.mk h
    clear h
    by_cases h1 : u < n
    · simp only [if_pos h1, Int.add_zero]
      go_enter Tryd.func18, Tryd.ntmps18
      go_wp2_with (first | (go_at_call 34; refine (L.it _).mono ?_; rintro e w' ⟨rfl, rfl⟩) | fail)
      go_returns
      exact ⟨R, T, rfl, ⟨H.it, Keeps.ofBelow (by go_grown)⟩⟩
    · simp only [if_neg h1]
      have H2 := Aside.mk (H.it.less (n := n) (by omega) (by omega) ho (by omega))
      have O := Aside.mk (fun w => ref8Owed w H2.it)
      have TH := Aside.mk (fun w => ref8Thr W w)
      rw [thr_in hW hW2] at TH
      by_cases h2 : o + n < (W + 1) / 2
      · simp only [if_pos h2, Int.add_zero]
        go_enter Tryd.func18, Tryd.ntmps18
        go_wp2_with (first | (go_at_call 34; refine (L.it _).mono ?_; rintro e w' ⟨rfl, rfl⟩) | (go_at_call 35; refine (O.it _).mono ?_; rintro e w' ⟨rfl, rfl⟩) | (go_at_call 15; refine (TH.it _).mono ?_; rintro e w' ⟨rfl, rfl⟩) | fail)
        go_returns
        exact ⟨_, T, rfl, ⟨H2.it, Keeps.ofBelow (by go_grown)⟩⟩
      · simp only [if_neg h2]
        go_enter Tryd.func18, Tryd.ntmps18
        go_wp2_with (first | (go_at_call 34; refine (L.it _).mono ?_; rintro e w' ⟨rfl, rfl⟩) | (go_at_call 35; refine (O.it _).mono ?_; rintro e w' ⟨rfl, rfl⟩) | (go_at_call 15; refine (TH.it _).mono ?_; rintro e w' ⟨rfl, rfl⟩) | fail)
        go_returns
        exact ⟨_, _, rfl, ⟨H2.it.all hl (by omega) (by omega), Keeps.ofBelow (by go_grown)⟩⟩
theorem ref8ArriveNil (n : Int) (w : World) : Calls Tryd.prog 16 #[ref8 0 0 0 0, .int .i64 n] w fun e w' => e = .returned (.tuple #[ref8 0 0 0 0, .int .i64 1]) ∧ Aside (Keeps Nowhere w w') := by
  go_enter Tryd.func16, Tryd.ntmps16
  go_wp2
  go_returns
  exact ⟨rfl, ⟨Keeps.ofBelow (by go_grown)⟩⟩
theorem ref8ReadNil (n : Int) (w : World) : Calls Tryd.prog 18 #[ref8 0 0 0 0, .int .i64 n] w fun e w' => e = .returned (.tuple #[ref8 0 0 0 0, .int .i64 0, .int .i64 1]) ∧ Aside (Keeps Nowhere w w') := by
  go_enter Tryd.func18, Tryd.ntmps18
  go_wp2
  go_returns
  exact ⟨rfl, ⟨Keeps.ofBelow (by go_grown)⟩⟩
end
end Go.Proofs.YtkkfjbjlggkhiaaDoor
