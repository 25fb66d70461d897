/-
  package frame: Check; the document's Check.
-/
import Derived.Test.YtbbldkldgjmmgaaGreatDoorTFrameA
namespace Go.Proofs.YtbbldkldgjmmgaaGreatDoor
open Go.RowKit

theorem alloc_drewN (w : World) (n : Nat) (o : Obj) : (w.drewN n).alloc o = (w.alloc o).drewN n := rfl
attribute [local go_sem] alloc_drewN

def chk (v t f s l most : Int) : Int :=
  if v ≠ 0 then 11 else if 4 ≤ t then 12 else if lawfulB t f = false then 13 else if ((t == 0 || t == 1) == (s != 0)) = false then 14 else if lenOk t f l most = false then 15 else 0

theorem sent_cell {A : Nat → Addr} {w : World} (hs : SentO A w) (i g : Nat) (h : tenVars[tenI i]? = some g) :
    ∀ o, (w.alloc o).cell? ⟨g, 0, none⟩ = some (.iface 204 (.pointer (some (A i)))) := fun o => cell_alloc o (hs.cell i g h)
theorem sent_cell2 {A : Nat → Addr} {w : World} (hs : SentO A w) (i g : Nat) (h : tenVars[tenI i]? = some g) :
    ∀ o o', ((w.alloc o).alloc o').cell? ⟨g, 0, none⟩ = some (.iface 204 (.pointer (some (A i)))) := fun o o' => cell_alloc o' (sent_cell hs i g h o)

set_option maxHeartbeats 4000000 in
theorem check_any {A : Nat → Addr} (v t f s l most : Int) (w : World) (hs : SentO A w) (hL : Lawful w) (ht0 : 0 ≤ t) (ht1 : t ≤ 255) (hf : 0 ≤ f) (hl0 : 0 ≤ l) (hl1 : l ≤ 4294967295) :
    Calls Tryz.prog 7 #[hdr v t f s l, .int .i64 most] w fun e w' => (∃ ev, e = .returned ev ∧ Coded A ev (chk v t f s l most)) ∧ Below w.heap.size w w' := by
  have hT := fun w => typeMayBe_any v t f s l w ht0 ht1
  have hS := streamMayBe_any v t f s l
  have hN := fun w => lengthMayBe_any v t f s l most w hl0 hl1
  have c10 := fun o => cell_alloc o (hs.cell 10 1 rfl)
  have c11 := fun o o' => cell_alloc o' (cell_alloc o (hs.cell 11 2 rfl))
  have c12 := fun o o' o2 => cell_alloc o2 (cell_alloc o' (cell_alloc o (hs.cell 12 3 rfl)))
  have c13 := fun o o' o2 o3 o4 => cell_alloc o4 (cell_alloc o3 (cell_alloc o2 (cell_alloc o' (cell_alloc o (hs.cell 13 4 rfl)))))
  have c14 := fun o o' o2 o3 o4 o5 o6 => cell_alloc o6 (cell_alloc o5 (cell_alloc o4 (cell_alloc o3 (cell_alloc o2 (cell_alloc o' (cell_alloc o (hs.cell 14 0 rfl)))))))
  have hF : t < 4 → Calls Tryz.prog 19 #[hdr v t f s l] ((w.alloc (hbox v t f s l)).alloc (hbox v t f s l)) fun e w' => e = .returned (.bool (lawfulB t f)) ∧ ∃ n, w' = (((w.alloc (hbox v t f s l)).alloc (hbox v t f s l)).alloc (hbox v t f s l)).drewN n := fun h4 =>
    flagsMayBe_any v t f s l _ ht0 h4 hf ((hL.later (alloc_below _ _)).later (alloc_below _ _))
  clear hL hs
  by_cases h4 : t < 4
  · have hF' := hF h4
    have hT : ∀ w : World, Calls Tryz.prog 18 #[hdr v t f s l] w fun e w' => e = .returned (.bool true) ∧ w' = w.alloc (hbox v t f s l) := fun w => by simpa [h4] using hT w
    have hS : ∀ (w : World) (n : Nat), Calls Tryz.prog 20 #[hdr v t f s l] (w.drewN n) fun e w' => e = .returned (.bool ((t == 0 || t == 1) == (s != 0))) ∧ ∃ m, w' = ((w.alloc (hbox v t f s l)).alloc (hbox v t f s l)).drewN m := fun w n =>
      (hS (w.drewN n)).mono (by rintro e w' ⟨rfl, m, rfl⟩; exact ⟨rfl, n + m, by rw [alloc_drewN, alloc_drewN, World.drewN_drewN]⟩)
    have hN : ∀ (w : World) (n : Nat), Calls Tryz.prog 21 #[hdr v t f s l, .int .i64 most] (w.drewN n) fun e w' => e = .returned (.bool (lenOk t f l most)) ∧ w' = ((w.alloc (hbox v t f s l)).alloc (hbox v t f s l)).drewN n := fun w n =>
      (hN (w.drewN n)).mono (by rintro e w' ⟨rfl, rfl⟩; exact ⟨rfl, rfl⟩)
    clear hF c11
    go_enter Tryz.func7, Tryz.ntmps7
    go_wp2_with (first
      | (go_at_call 18; refine (hT _).mono ?_; rintro e w1 ⟨rfl, rfl⟩)
      | (go_at_call 19; refine hF'.mono ?_; rintro e w1 ⟨rfl, n, rfl⟩)
      | (go_at_call 20; refine (hS _ _).mono ?_; rintro e w1 ⟨rfl, n, rfl⟩)
      | (go_at_call 21; refine (hN _ _).mono ?_; rintro e w1 ⟨rfl, rfl⟩))
    all_goals go_ret
    · refine ⟨⟨_, rfl, Coded.mk 10 _ (by decide) (by decide) ?_⟩, alloc_below _ _⟩
      simp_all [chk]
    · refine ⟨⟨_, rfl, Coded.mk 12 _ (by decide) (by decide) ?_⟩, ?_⟩
      · simp_all [chk]
      · repeat first | exact Below.refl _ _ | refine below_drewN ?_ _ | refine Below.alloc ?_ (by simp <;> omega) _
    · refine ⟨⟨_, rfl, Coded.mk 13 _ (by decide) (by decide) ?_⟩, ?_⟩
      · simp_all [chk]
      · repeat first | exact Below.refl _ _ | refine below_drewN ?_ _ | refine Below.alloc ?_ (by simp <;> omega) _
    · refine ⟨⟨_, rfl, Coded.mk 14 _ (by decide) (by decide) ?_⟩, ?_⟩
      · simp_all [chk]
      · repeat first | exact Below.refl _ _ | refine below_drewN ?_ _ | refine Below.alloc ?_ (by simp <;> omega) _
    · refine ⟨⟨_, rfl, ?_⟩, ?_⟩
      · have e : chk v t f s l most = 0 := by simp_all [chk]
        rw [e]; exact Coded.none
      · repeat first | exact Below.refl _ _ | refine below_drewN ?_ _ | refine Below.alloc ?_ (by simp <;> omega) _
  · have hT : ∀ w : World, Calls Tryz.prog 18 #[hdr v t f s l] w fun e w' => e = .returned (.bool false) ∧ w' = w.alloc (hbox v t f s l) := fun w => by simpa [h4] using hT w
    clear hF c12 c13 c14 hS hN
    go_enter Tryz.func7, Tryz.ntmps7
    go_wp2_with (first
      | (go_at_call 18; refine (hT _).mono ?_; rintro e w1 ⟨rfl, rfl⟩))
    · go_ret
      refine ⟨⟨_, rfl, Coded.mk 10 _ (by decide) (by decide) ?_⟩, alloc_below _ _⟩
      simp_all [chk]
    · go_ret
      refine ⟨⟨_, rfl, Coded.mk 11 _ (by decide) (by decide) ?_⟩, ((Below.refl _ _).alloc (Nat.le_refl _) _).alloc (by simp) _⟩
      simp_all [chk]

def refL (t f : Int) : Bool :=
  if t = 0 ∨ t = 1 then decide (f = 0 ∨ f = 1 ∨ f = 2 ∨ f = 4 ∨ f = 8 ∨ f = 5 ∨ f = 6) else if t = 2 then (f == 1 || f == 2) else if t = 3 then f == 0 else false
theorem refL_eq (t f : Int) (ht0 : 0 ≤ t) (ht : t < 4) (hf : 0 ≤ f) : refL t f = lawfulB t f := by
  obtain ⟨ti, rfl⟩ := Int.eq_ofNat_of_zero_le ht0
  obtain ⟨fi, rfl⟩ := Int.eq_ofNat_of_zero_le hf
  by_cases h : fi < 16
  · have key : ∀ a : Fin 4, ∀ b : Fin 16, refL (a.val : Int) (b.val : Int) = lawfulB (a.val : Int) (b.val : Int) := by decide
    exact key ⟨ti, by omega⟩ ⟨fi, h⟩
  · have h1 : lawfulB ti fi = false := by simp [lawfulB]; intro; omega
    rw [h1]
    simp only [refL]
    repeat' split
    all_goals first | rfl | (apply decide_eq_false; omega) | (simp; omega)
/-- the document's Check as its text goes -/
def chkR (v t f s l m : Int) : Int :=
  if v ≠ 0 then 11 else if 3 < t then 12 else if refL t f = false then 13 else if ((t == 0 || t == 1) == (s == 0)) = true then 14
  else if t = 0 ∧ m < l then 15 else if (t = 0 ∨ t = 1) ∧ f = 8 ∧ 0 < l then 15 else if t = 3 ∧ 2 < l then 15 else 0
theorem bit8 (f : Int) (h : f = 0 ∨ f = 1 ∨ f = 2 ∨ f = 4 ∨ f = 8 ∨ f = 5 ∨ f = 6) : (bits .and .u16 f 8 != 0) = (f == 8) := by
  rcases h with rfl | rfl | rfl | rfl | rfl | rfl | rfl <;> decide
theorem chkR_eq (v t f s l most : Int) (ht0 : 0 ≤ t) (hf : 0 ≤ f) (hl0 : 0 ≤ l) : chkR v t f s l (max most 0) = chk v t f s l most := by
  unfold chkR chk
  by_cases h1 : v ≠ 0
  · rw [if_pos h1, if_pos h1]
  rw [if_neg h1, if_neg h1]
  by_cases h2 : 3 < t
  · rw [if_pos h2, if_pos (by omega)]
  have h2' : ¬ 4 ≤ t := by omega
  rw [if_neg h2, if_neg h2', refL_eq t f ht0 (by omega) hf]
  by_cases h3 : lawfulB t f = false
  · rw [if_pos h3, if_pos h3]
  rw [if_neg h3, if_neg h3]
  have hL : refL t f = true := by rw [refL_eq t f ht0 (by omega) hf]; simpa using h3
  have hs : ((t == 0 || t == 1) == (s == 0)) = !((t == 0 || t == 1) == (s != 0)) := by
    cases (t == 0 || t == 1) <;> by_cases h : s = 0 <;> simp [h, bne]
  rw [hs]
  by_cases h4 : ((t == 0 || t == 1) == (s != 0)) = false
  · rw [if_pos (by rw [h4]; rfl), if_pos h4]
  rw [if_neg (by simp only [Bool.not_eq_false] at h4; rw [h4]; simp), if_neg h4]
  by_cases t0 : t = 0
  · subst t0
    have h8 := bit8 f (by simpa [refL] using hL)
    simp only [lenOk, h8]
    by_cases f8 : f = 8
    · subst f8; simp; try (split <;> split <;> omega)
    · simp [f8]; try (split <;> split <;> omega)
  by_cases t1 : t = 1
  · subst t1
    have h8 := bit8 f (by simpa [refL] using hL)
    simp only [lenOk, h8]
    by_cases f8 : f = 8
    · subst f8; simp; try (split <;> split <;> omega)
    · simp [f8]
  by_cases t3 : t = 3
  · subst t3; simp [lenOk]; try (split <;> split <;> omega)
  · simp [lenOk, t0, t1, t3]
end Go.Proofs.YtbbldkldgjmmgaaGreatDoor
