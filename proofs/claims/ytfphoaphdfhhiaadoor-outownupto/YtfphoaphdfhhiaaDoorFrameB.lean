/-
  package frame: Check; the document's Check.
-/
import Derived.Test.YtfphoaphdfhhiaaDoorFrameA
namespace Go.Proofs.YtfphoaphdfhhiaaDoor
open Go.RowKit

theorem alloc_drewN (w : World) (n : Nat) (o : Obj) : (w.drewN n).alloc o = (w.alloc o).drewN n := rfl
attribute [local go_sem] alloc_drewN

def chk (v t f s l most : Int) : Int :=
  if v ≠ 0 then 11 else if 4 ≤ t then 12 else if lawfulB t f = false then 13 else if ((t == 0 || t == 1) == (s != 0)) = false then 14 else if lenOk t f l most = false then 15 else 0

theorem sent_cell {A : Nat → Addr} {w : World} (hs : Sents 103 codeVars A w) (i g : Nat) (h : codeVars[i]? = some g) :
    ∀ o, (w.alloc o).cell? ⟨g, 0, none⟩ = some (.iface 103 (.pointer (some (A i)))) := fun o => cell_alloc o (hs.cell i g h)
theorem sent_cell2 {A : Nat → Addr} {w : World} (hs : Sents 103 codeVars A w) (i g : Nat) (h : codeVars[i]? = some g) :
    ∀ o o', ((w.alloc o).alloc o').cell? ⟨g, 0, none⟩ = some (.iface 103 (.pointer (some (A i)))) := fun o o' => cell_alloc o' (sent_cell hs i g h o)

def refL (t f : Int) : Bool :=
  if t = 0 ∨ t = 1 then decide (f = 0 ∨ f = 1 ∨ f = 2 ∨ f = 4 ∨ f = 8 ∨ f = 5 ∨ f = 6) else if t = 2 then (f == 1 || f == 2) else if t = 3 then f == 0 else false
theorem refL_eq (t f : Int) (ht0 : 0 ≤ t) (ht : t < 4) (hf : 0 ≤ f) : refL t f = lawfulB t f := by
  obtain ⟨ti, rfl⟩ := Int.eq_ofNat_of_zero_le ht0
  obtain ⟨fi, rfl⟩ := Int.eq_ofNat_of_zero_le hf
  by_cases h : fi < 16
  · have key : ∀ a : Fin 4, ∀ b : Fin 16, refL (a.val : Int) (b.val : Int) = lawfulB (a.val : Int) (b.val : Int) := by decide
    exact key ⟨ti, by omega⟩ ⟨fi, h⟩
  · have h1 : lawfulB ti fi = false := by simp [lawfulB]; intro; omega
    rw [h1]
    simp only [refL]
    repeat' split
    all_goals first | rfl | (apply decide_eq_false; omega) | (simp; omega)
/-- the document's Check as its text goes -/
def chkR (v t f s l m : Int) : Int :=
  if v ≠ 0 then 11 else if 3 < t then 12 else if refL t f = false then 13 else if ((t == 0 || t == 1) == (s == 0)) = true then 14
  else if t = 0 ∧ m < l then 15 else if (t = 0 ∨ t = 1) ∧ f = 8 ∧ 0 < l then 15 else if t = 3 ∧ 2 < l then 15 else 0
theorem bit8 (f : Int) (h : f = 0 ∨ f = 1 ∨ f = 2 ∨ f = 4 ∨ f = 8 ∨ f = 5 ∨ f = 6) : (bits .and .u16 f 8 != 0) = (f == 8) := by
  rcases h with rfl | rfl | rfl | rfl | rfl | rfl | rfl <;> decide
theorem chkR_eq (v t f s l most : Int) (ht0 : 0 ≤ t) (hf : 0 ≤ f) (hl0 : 0 ≤ l) : chkR v t f s l (max most 0) = chk v t f s l most := by
  unfold chkR chk
  by_cases h1 : v ≠ 0
  · rw [if_pos h1, if_pos h1]
  rw [if_neg h1, if_neg h1]
  by_cases h2 : 3 < t
  · rw [if_pos h2, if_pos (by omega)]
  have h2' : ¬ 4 ≤ t := by omega
  rw [if_neg h2, if_neg h2', refL_eq t f ht0 (by omega) hf]
  by_cases h3 : lawfulB t f = false
  · rw [if_pos h3, if_pos h3]
  rw [if_neg h3, if_neg h3]
  have hL : refL t f = true := by rw [refL_eq t f ht0 (by omega) hf]; simpa using h3
  have hs : ((t == 0 || t == 1) == (s == 0)) = !((t == 0 || t == 1) == (s != 0)) := by
    cases (t == 0 || t == 1) <;> by_cases h : s = 0 <;> simp [h, bne]
  rw [hs]
  by_cases h4 : ((t == 0 || t == 1) == (s != 0)) = false
  · rw [if_pos (by rw [h4]; rfl), if_pos h4]
  rw [if_neg (by simp only [Bool.not_eq_false] at h4; rw [h4]; simp), if_neg h4]
  by_cases t0 : t = 0
  · subst t0
    have h8 := bit8 f (by simpa [refL] using hL)
    simp only [lenOk, h8]
    by_cases f8 : f = 8
    · subst f8; simp; try (split <;> split <;> omega)
    · simp [f8]; try (split <;> split <;> omega)
  by_cases t1 : t = 1
  · subst t1
    have h8 := bit8 f (by simpa [refL] using hL)
    simp only [lenOk, h8]
    by_cases f8 : f = 8
    · subst f8; simp; try (split <;> split <;> omega)
    · simp [f8]
  by_cases t3 : t = 3
  · subst t3; simp [lenOk]; try (split <;> split <;> omega)
  · simp [lenOk, t0, t1, t3]
end Go.Proofs.YtfphoaphdfhhiaaDoor
