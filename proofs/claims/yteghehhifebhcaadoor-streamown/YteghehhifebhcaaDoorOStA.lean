/-
  package states: the table in memory; isState, isEvent, has, Next, Sends, Hears, Final, Name.
-/
import Derived.Test.YteghehhifebhcaaDoorStP
import Derived.Test.YteghehhifebhcaaDoorOSn
import Derived.Test.YteghehhifebhcaaDoorOCodedZ
import Derived.WalkLawsBesides
import Derived.WalkSpells
import Derived.BigQuiet
import Derived.Deep.RegionWith
import Derived.Deep.RegionHeldLaw
import Derived.BigRegion
import Derived.Handy
import Derived.Deep.Cut
namespace Go.Proofs.YteghehhifebhcaaDoor
open Go.RowKit

section
variable {w w' : World} {A : Nat → Addr}
/-- the table lies in memory -/
def Behind (w : World) : Prop := ∀ i j, i < 8 → j < 7 → w.cell? ⟨42, i * 7 + j, none⟩ = some (.int .i64 ((stTab.getD i []).getD j 0))
theorem Behind.later (h : Behind w) (hb : Below w.heap.size w w') : Behind w' := by
  intro i j hi hj
  have := h i j hi hj
  rw [← this]
  exact hb.cell (p := ⟨42, i * 7 + j, none⟩) (World.block_lt_of_cell? w _ this)
structure St9 (A : Nat → Addr) (w : World) : Prop where
  s : SentO A w
  tab : Behind w
theorem St9.later (h : St9 A w) (hb : Below w.heap.size w w') : St9 A w' := ⟨h.s.later hb, h.tab.later hb⟩
theorem St9.quiet (h : St9 A w) (hb : Keeps Nowhere w w') : St9 A w' := h.later hb.bel
theorem St9.drewN (h : St9 A w) (m : Nat) : St9 A (w.drewN m) := h.quiet ((Keeps.refl _ _).drewN m)
theorem St9.cell (h : St9 A w) (i j : Nat) (hi : i < 8) (hj : j < 7) : w.cell? ⟨42, i * 7 + j, none⟩ = some (.int .i64 (nx i j)) := h.tab i j hi hj

theorem isState_yes (s : Int) (w : World) (h0 : 0 ≤ s) (h1 : s < 8) : Calls Tryd.prog 78 #[.int .i64 s] w fun e w' => e = .returned (.bool true) ∧ w' = w := by
  go_enter Tryd.func78, Tryd.ntmps78
  go_wp2
  go_ret
  exact ⟨rfl, rfl⟩
theorem isState_no (s : Int) (w : World) (h : s < 0 ∨ 8 ≤ s) : Calls Tryd.prog 78 #[.int .i64 s] w fun e w' => e = .returned (.bool false) ∧ w' = w := by
  rcases h with h | h
  · have h' : ¬ 0 ≤ s := by omega
    go_enter Tryd.func78, Tryd.ntmps78
    go_wp2
    go_ret
    exact ⟨rfl, rfl⟩
  · have h' : 0 ≤ s := by omega
    have h2 : ¬ s < 8 := by omega
    go_enter Tryd.func78, Tryd.ntmps78
    go_wp2
    go_ret
    exact ⟨rfl, rfl⟩
theorem isEvent_yes (s : Int) (w : World) (h0 : 0 ≤ s) (h1 : s < 7) : Calls Tryd.prog 79 #[.int .i64 s] w fun e w' => e = .returned (.bool true) ∧ w' = w := by
  go_enter Tryd.func79, Tryd.ntmps79
  go_wp2
  go_ret
  exact ⟨rfl, rfl⟩
theorem isEvent_no (s : Int) (w : World) (h : s < 0 ∨ 7 ≤ s) : Calls Tryd.prog 79 #[.int .i64 s] w fun e w' => e = .returned (.bool false) ∧ w' = w := by
  rcases h with h | h
  · have h' : ¬ 0 ≤ s := by omega
    go_enter Tryd.func79, Tryd.ntmps79
    go_wp2
    go_ret
    exact ⟨rfl, rfl⟩
  · have h' : 0 ≤ s := by omega
    have h2 : ¬ s < 7 := by omega
    go_enter Tryd.func79, Tryd.ntmps79
    go_wp2
    go_ret
    exact ⟨rfl, rfl⟩
theorem has_at (s e : Int) (h : Behind w) (hs : 0 ≤ s ∧ s < 8) (he : 0 ≤ e ∧ e < 7) : Calls Tryd.prog 80 #[.int .i64 s, .int .i64 e] w fun x w' => x = .returned (.bool (nx s e != 0)) ∧ w' = w := by
  obtain ⟨i, rfl⟩ := Int.eq_ofNat_of_zero_le hs.1
  obtain ⟨j, rfl⟩ := Int.eq_ofNat_of_zero_le he.1
  have hc : w.cell? ⟨42, i * 7 + j, none⟩ = some (.int .i64 (nx i j)) := h i j (by omega) (by omega)
  have i1 : (i : Int) < 8 := hs.2
  have i2 : (j : Int) < 7 := he.2
  have i3 : (0 : Int) ≤ i := hs.1
  have i4 : (0 : Int) ≤ j := he.1
  generalize nx i j = t at hc ⊢
  clear h hs he
  go_enter Tryd.func80, Tryd.ntmps80
  go_wp2
  go_ret
  exact ⟨rfl, rfl⟩
theorem next_any (s e : Int) (h : St9 A w) : Calls Tryd.prog 61 #[.int .i64 s, .int .i64 e] w fun x w' => ∃ v, x = .returned (.tuple #[.int .i64 (nxS s e), v]) ∧ Hid (Coded A v (nxE s e)) ∧ ∃ m, w' = w.drewN m := by
  have r1 := h.s.cell 1 0 rfl
  have r2 := h.s.cell 22 2 rfl
  by_cases hs : 0 ≤ s ∧ s < 8
  · by_cases he : 0 ≤ e ∧ e < 7
    · have hr : 0 ≤ s ∧ s < 8 ∧ 0 ≤ e ∧ e < 7 := ⟨hs.1, hs.2, he.1, he.2⟩
      have e1 : nxS s e = nx s e := if_pos hr
      have e2 : nxE s e = if nx s e = 0 then 23 else 0 := if_pos hr
      rw [e1, e2]
      have c1 := Aside.mk (isState_yes s w hs.1 hs.2)
      have c2 := Aside.mk (isEvent_yes e w he.1 he.2)
      have c3 := Aside.mk (has_at s e h.tab hs he)
      obtain ⟨i, rfl⟩ := Int.eq_ofNat_of_zero_le hs.1
      obtain ⟨j, rfl⟩ := Int.eq_ofNat_of_zero_le he.1
      have hc : w.cell? ⟨42, i * 7 + j, none⟩ = some (.int .i64 (nx i j)) := h.cell i j (by omega) (by omega)
      have i1 : (i : Int) < 8 := hs.2
      have i2 : (j : Int) < 7 := he.2
      have i3 : (0 : Int) ≤ i := hs.1
      have i4 : (0 : Int) ≤ j := he.1
      generalize nx i j = t at hc c3 ⊢
      clear h hs he hr e1 e2
      by_cases h0 : t = 0
      · subst h0
        go_enter Tryd.func61, Tryd.ntmps61
        go_wp2_with (first | (go_at_call 78; refine c1.it.mono ?_; rintro x w1 ⟨rfl, rfl⟩) | (go_at_call 79; refine c2.it.mono ?_; rintro x w1 ⟨rfl, rfl⟩) | (go_at_call 80; refine c3.it.mono ?_; rintro x w1 ⟨rfl, rfl⟩) | fail)
        go_quiet (fail)
        go_wp2
        go_ret2
        exact ⟨_, rfl, hide (.mk 22 23 (by decide) (by decide) rfl), _, rfl⟩
      · have h1 : (t != 0) = true := by simpa using h0
        rw [h1] at c3
        rw [if_neg h0]
        go_enter Tryd.func61, Tryd.ntmps61
        go_wp2_with (first | (go_at_call 78; refine c1.it.mono ?_; rintro x w1 ⟨rfl, rfl⟩) | (go_at_call 79; refine c2.it.mono ?_; rintro x w1 ⟨rfl, rfl⟩) | (go_at_call 80; refine c3.it.mono ?_; rintro x w1 ⟨rfl, rfl⟩) | fail)
        go_ret2
        exact ⟨_, rfl, hide .none, 0, rfl⟩
    · have hr : ¬ (0 ≤ s ∧ s < 8 ∧ 0 ≤ e ∧ e < 7) := fun x => he ⟨x.2.2.1, x.2.2.2⟩
      rw [show nxS s e = 0 from if_neg hr, show nxE s e = 2 from if_neg hr]
      have c1 := Aside.mk (isState_yes s w hs.1 hs.2)
      have c2 := Aside.mk (isEvent_no e w (by omega))
      clear h hs he hr
      go_enter Tryd.func61, Tryd.ntmps61
      go_wp2_with (first | (go_at_call 78; refine c1.it.mono ?_; rintro x w1 ⟨rfl, rfl⟩) | (go_at_call 79; refine c2.it.mono ?_; rintro x w1 ⟨rfl, rfl⟩) | fail)
      go_quiet (fail)
      go_wp2
      go_ret2
      exact ⟨_, rfl, hide (.mk 1 2 (by decide) (by decide) rfl), _, rfl⟩
  · have hr : ¬ (0 ≤ s ∧ s < 8 ∧ 0 ≤ e ∧ e < 7) := fun x => hs ⟨x.1, x.2.1⟩
    rw [show nxS s e = 0 from if_neg hr, show nxE s e = 2 from if_neg hr]
    have c1 := Aside.mk (isState_no s w (by omega))
    clear h hs hr
    go_enter Tryd.func61, Tryd.ntmps61
    go_wp2_with (first | (go_at_call 78; refine c1.it.mono ?_; rintro x w1 ⟨rfl, rfl⟩) | fail)
    go_quiet (fail)
    go_wp2
    go_ret2
    exact ⟨_, rfl, hide (.mk 1 2 (by decide) (by decide) rfl), _, rfl⟩

/-- may Data go out, come in -/
def mayGo (s : Int) : Bool := s == 1 || s == 2 || s == 3 || s == 5
def mayCome (s : Int) : Bool := s == 1 || s == 2 || s == 3 || s == 4
theorem nx_go (s : Int) (h0 : 0 ≤ s) (h1 : s < 8) : (nx s 4 != 0) = mayGo s := by
  rcases eight h0 h1 with rfl | rfl | rfl | rfl | rfl | rfl | rfl | rfl <;> decide
theorem nx_come (s : Int) (h0 : 0 ≤ s) (h1 : s < 8) : (nx s 5 != 0) = mayCome s := by
  rcases eight h0 h1 with rfl | rfl | rfl | rfl | rfl | rfl | rfl | rfl <;> decide
theorem sends_any (s : Int) (h : Behind w) : Calls Tryd.prog 68 #[.int .i64 s] w fun x w' => x = .returned (.bool (mayGo s)) ∧ w' = w := by
  by_cases hs : 0 ≤ s ∧ s < 8
  · have c1 := Aside.mk (isState_yes s w hs.1 hs.2)
    have c3 := Aside.mk (has_at s 4 h hs (by decide))
    rw [nx_go s hs.1 hs.2] at c3
    clear h hs
    go_enter Tryd.func68, Tryd.ntmps68
    go_wp2_with (first | (go_at_call 78; refine c1.it.mono ?_; rintro x w1 ⟨rfl, rfl⟩) | (go_at_call 80; refine c3.it.mono ?_; rintro x w1 ⟨rfl, rfl⟩) | fail)
    go_ret
    exact ⟨rfl, rfl⟩
  · have c1 := Aside.mk (isState_no s w (by omega))
    have e : mayGo s = false := by simp only [mayGo, Bool.or_eq_false_iff, beq_eq_false_iff_ne]; omega
    rw [e]
    clear h hs e
    go_enter Tryd.func68, Tryd.ntmps68
    go_wp2_with (first | (go_at_call 78; refine c1.it.mono ?_; rintro x w1 ⟨rfl, rfl⟩) | fail)
    go_ret
    exact ⟨rfl, rfl⟩
theorem hears_any (s : Int) (h : Behind w) : Calls Tryd.prog 70 #[.int .i64 s] w fun x w' => x = .returned (.bool (mayCome s)) ∧ w' = w := by
  by_cases hs : 0 ≤ s ∧ s < 8
  · have c1 := Aside.mk (isState_yes s w hs.1 hs.2)
    have c3 := Aside.mk (has_at s 5 h hs (by decide))
    rw [nx_come s hs.1 hs.2] at c3
    clear h hs
    go_enter Tryd.func70, Tryd.ntmps70
    go_wp2_with (first | (go_at_call 78; refine c1.it.mono ?_; rintro x w1 ⟨rfl, rfl⟩) | (go_at_call 80; refine c3.it.mono ?_; rintro x w1 ⟨rfl, rfl⟩) | fail)
    go_ret
    exact ⟨rfl, rfl⟩
  · have c1 := Aside.mk (isState_no s w (by omega))
    have e : mayCome s = false := by simp only [mayCome, Bool.or_eq_false_iff, beq_eq_false_iff_ne]; omega
    rw [e]
    clear h hs e
    go_enter Tryd.func70, Tryd.ntmps70
    go_wp2_with (first | (go_at_call 78; refine c1.it.mono ?_; rintro x w1 ⟨rfl, rfl⟩) | fail)
    go_ret
    exact ⟨rfl, rfl⟩
theorem final_any (s : Int) (w : World) : Calls Tryd.prog 75 #[.int .i64 s] w fun x w' => x = .returned (.bool (s == 7)) ∧ w' = w := by
  go_enter Tryd.func75, Tryd.ntmps75
  go_wp2
  go_ret
  exact ⟨rfl, rfl⟩
end
end Go.Proofs.YteghehhifebhcaaDoor
