/-
  law 09: wakes, next, asked; StatesTable, StatesNext.
-/
import Derived.Test.YtbinopfcelebbaaDoorStB
namespace Go.Proofs.YtbinopfcelebbaaDoor
open Go.RowKit

def stNames : List (List UInt8) :=
  [[73, 110, 105, 116], [83, 121, 110, 83, 101, 110, 116], [83, 121, 110, 82, 101, 99, 118], [69, 115, 116, 97, 98, 108, 105, 115, 104, 101, 100], [76, 111, 99, 97, 108, 67, 108, 111, 115, 101, 100], [82, 101, 109, 111, 116, 101, 67, 108, 111, 115, 101, 100], [67, 108, 111, 115, 101, 100], [82, 101, 115, 101, 116]]
def nameOf (s : Int) : ByteArray := if 0 ≤ s ∧ s < 8 then ⟨(stNames.getD s.toNat []).toArray⟩ else ⟨#[]⟩
section
variable {w w' : World} {A : Nat → Addr}
/-- the names lie in memory -/
def Named (w : World) : Prop := ∀ i, i < 8 → w.cell? ⟨3, i, none⟩ = some (.string ⟨(stNames.getD i []).toArray⟩)
theorem Named.later (h : Named w) (hb : Below w.heap.size w w') : Named w' := by
  intro i hi
  have := h i hi
  rw [← this]
  exact hb.cell (p := ⟨3, i, none⟩) (World.block_lt_of_cell? w _ this)
theorem name_any (s : Int) (h : Named w) : Calls Tryd.prog 24 #[.int .i64 s] w fun x w' => x = .returned (.string (nameOf s)) ∧ w' = w := by
  by_cases hs : 0 ≤ s ∧ s < 8
  · rw [show nameOf s = ⟨(stNames.getD s.toNat []).toArray⟩ from if_pos hs]
    have c1 := Aside.mk (isState_yes s w hs.1 hs.2)
    obtain ⟨i, rfl⟩ := Int.eq_ofNat_of_zero_le hs.1
    have hc := h i (by omega)
    rw [Int.toNat_natCast]
    generalize (⟨(stNames.getD i []).toArray⟩ : ByteArray) = t at hc ⊢
    have i1 : (i : Int) < 8 := hs.2
    have i3 : (0 : Int) ≤ i := hs.1
    clear h hs
    go_enter Tryd.func24, Tryd.ntmps24
    go_wp2_with (first | (go_at_call 28; refine c1.it.mono ?_; rintro x w1 ⟨rfl, rfl⟩) | fail)
    go_ret
    exact ⟨rfl, rfl⟩
  · rw [show nameOf s = ⟨#[]⟩ from if_neg hs]
    have c1 := Aside.mk (isState_no s w (by omega))
    clear h hs
    go_enter Tryd.func24, Tryd.ntmps24
    go_wp2_with (first | (go_at_call 28; refine c1.it.mono ?_; rintro x w1 ⟨rfl, rfl⟩) | fail)
    go_ret
    exact ⟨rfl, rfl⟩
theorem rname_any (s : Int) (w : World) : Calls Tryd.prog 25 #[.int .i64 s] w fun x w' => x = .returned (.string (nameOf s)) ∧ w' = w := by
  by_cases hs : 0 ≤ s ∧ s < 8
  · rcases eight hs.1 hs.2 with rfl | rfl | rfl | rfl | rfl | rfl | rfl | rfl
    all_goals
      clear hs
      go_enter Tryd.func25, Tryd.ntmps25
      go_wp2
      go_ret
      exact ⟨rfl, rfl⟩
  · rw [show nameOf s = ⟨#[]⟩ from if_neg hs]
    have h0 : (s == 0) = false := by simp only [beq_eq_false_iff_ne]; omega
    have h1 : (s == 1) = false := by simp only [beq_eq_false_iff_ne]; omega
    have h2 : (s == 2) = false := by simp only [beq_eq_false_iff_ne]; omega
    have h3 : (s == 3) = false := by simp only [beq_eq_false_iff_ne]; omega
    have h4 : (s == 4) = false := by simp only [beq_eq_false_iff_ne]; omega
    have h5 : (s == 5) = false := by simp only [beq_eq_false_iff_ne]; omega
    have h6 : (s == 6) = false := by simp only [beq_eq_false_iff_ne]; omega
    have h7 : (s == 7) = false := by simp only [beq_eq_false_iff_ne]; omega
    clear hs
    go_enter Tryd.func25, Tryd.ntmps25
    go_wp2
    go_ret
    exact ⟨rfl, rfl⟩
structure St9N (A : Nat → Addr) (w : World) : Prop where
  st : St9 A w
  nm : Named w
theorem St9N.quiet (h : St9N A w) (hb : Keeps Nowhere w w') : St9N A w' := ⟨h.st.quiet hb, h.nm.later hb.bel⟩
/-- 'wakes' -/
theorem wakes9 (h : St9 A w) : Calls Tryd.prog 9 #[] w fun e w' => e = .returned (.bool true) ∧ Aside (Keeps Nowhere w w') := by
  have c1 := Aside.mk (next_any 1 4 h)
  rw [show nxS 1 4 = 4 from by decide, show nxE 1 4 = 0 from by decide] at c1
  have c2 := Aside.mk (fun m => next_any 3 3 (h.drewN m))
  rw [show nxS 3 3 = 0 from by decide, show nxE 3 3 = 23 from by decide] at c2
  have HL : ∀ m, RdI ((w.drewN m).alloc (.cells #[.int .i64 1, .int .i64 5, .int .i64 2, .int .i64 4] 39)) (.slice (some ⟨(w.drewN m).heap.size, 0, none⟩) 4 4) [1, 5, 2, 4] := by
    intro m
    refine ⟨_, _, rfl, Nat.le_refl _, by decide, fun k z hk => ⟨?_, _, _, rfl, ?_⟩⟩
    · have := List.mem_of_getElem? hk
      simp at this
      omega
    · have := (Cells.new (w.drewN m) 39 [.int .i64 1, .int .i64 5, .int .i64 2, .int .i64 4]).cell k
      rw [Nat.zero_add, this]
      have e : ([.int .i64 1, .int .i64 5, .int .i64 2, .int .i64 4] : List Value) = [1, 5, 2, 4].map (Value.int .i64) := rfl
      rw [e, List.getElem?_map, hk]
      rfl
  have c3 := Aside.mk (fun m => play_any _ _ (HL m) ((h.drewN m).quiet ((Keeps.refl _ _).alloc _)))
  rw [show plS 0 [1, 5, 2, 4] = 6 from by decide, show plN 0 [1, 5, 2, 4] = 4 from by decide, show plE 0 [1, 5, 2, 4] = 0 from by decide] at c3
  have HH := Aside.mk h
  clear HL h
  go_enter Tryd.func9, Tryd.ntmps9
  go_upto_region 2 with (first | (go_at_call 16; refine c1.it.mono ?_; rintro x w1 ⟨u, rfl, hu, m1, rfl⟩; have e := hu.out.zero; subst e) | fail)
  go_upto_region 3 with (first | (go_at_call 16; refine (c2.it _).mono ?_; rintro x w1 ⟨u2, rfl, hu2, m2, rfl⟩) | fail)
  go_upto_region 4 with (first | (go_at_call 12; refine (c3.it _).mono ?_; rintro x w1 ⟨u3, rfl, hu3, m3, rfl⟩; have e := hu3.out.zero; subst e) | fail)
  have CD := Aside.mk (fun m => code_of (A := A) ((HH.it.quiet (((Keeps.refl Nowhere _).drewN (m1 + m2)).alloc (.cells #[.int .i64 1, .int .i64 5, .int .i64 2, .int .i64 4] 39))).drewN m).s hu2.out)
  clear c1 c2 c3 HH
  go_wp2_with (first | (go_at_call 15; refine (CD.it _).mono ?_; rintro x w1 ⟨rfl, rfl⟩) | fail)
  go_ret
  exact ⟨rfl, ⟨((((Keeps.refl Nowhere w).drewN _).alloc _).drewN _)⟩⟩
/-- one step is the document's -/
theorem next9 (s e : Int) (h : St9 A w) : Calls Tryd.prog 10 #[.int .i64 s, .int .i64 e] w fun x w' => x = .returned (.bool true) ∧ Aside (Keeps Nowhere w w') := by
  have c1 := Aside.mk (next_any s e h)
  have c2 := Aside.mk (fun m => rnext_any s e (w.drewN m))
  have HH := Aside.mk h
  generalize nxS s e = t at c1 c2
  generalize nxE s e = f at c1 c2
  clear h
  go_enter Tryd.func10, Tryd.ntmps10
  go_upto_region 2 with (first | (go_at_call 16; refine c1.it.mono ?_; rintro x w1 ⟨u, rfl, hu, m1, rfl⟩) | fail)
  go_upto_region 3 with (first | (go_at_call 21; refine (c2.it _).mono ?_; rintro x w1 ⟨rfl, rfl⟩) | fail)
  have CD := Aside.mk (code_of (A := A) (HH.it.drewN m1).s hu.out)
  clear c1 c2 HH
  go_wp2_with (first | (go_at_call 15; refine CD.it.mono ?_; rintro x w1 ⟨rfl, rfl⟩) | fail)
  go_ret
  exact ⟨by simp, ⟨(Keeps.refl Nowhere w).drewN _⟩⟩
theorem asked9 (s : Int) (h : St9 A w) (hn : Named w) : Calls Tryd.prog 11 #[.int .i64 s] w fun x w' => x = .returned (.bool true) ∧ w' = w := by
  have c1 := Aside.mk (sends_any s h.tab)
  have c2 := Aside.mk (rsends_any s w)
  have c3 := Aside.mk (hears_any s h.tab)
  have c4 := Aside.mk (rhears_any s w)
  have c5 := Aside.mk (final_any s w)
  have c6 := Aside.mk (name_any s hn)
  have c7 := Aside.mk (rname_any s w)
  generalize mayGo s = t at c1 c2
  generalize mayCome s = f at c3 c4
  generalize nameOf s = n at c6 c7
  clear h hn
  go_enter Tryd.func11, Tryd.ntmps11
  go_wp2_with (first
    | (go_at_call 18; refine c1.it.mono ?_; rintro x w1 ⟨rfl, rfl⟩) | (go_at_call 22; refine c2.it.mono ?_; rintro x w1 ⟨rfl, rfl⟩)
    | (go_at_call 19; refine c3.it.mono ?_; rintro x w1 ⟨rfl, rfl⟩) | (go_at_call 23; refine c4.it.mono ?_; rintro x w1 ⟨rfl, rfl⟩)
    | (go_at_call 20; refine c5.it.mono ?_; rintro x w1 ⟨rfl, rfl⟩)
    | (go_at_call 24; refine c6.it.mono ?_; rintro x w1 ⟨rfl, rfl⟩) | (go_at_call 25; refine c7.it.mono ?_; rintro x w1 ⟨rfl, rfl⟩)
    | fail)
  all_goals
    go_ret
    exact ⟨by simp, rfl⟩
end
end Go.Proofs.YtbinopfcelebbaaDoor
