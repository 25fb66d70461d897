/-
  package frame: the words of a header's text.
-/
import Derived.Test.YtfpdllckpcjgdaaDoorFmtU
import Derived.Test.YtfpdllckpcjgdaaDoorOwnS
import Derived.Test.YtfpdllckpcjgdaaDoorFrameE
namespace Go.Proofs.YtfpdllckpcjgdaaDoor
open Go.RowKit

/-- a text's bytes, as a string -/
abbrev str (l : List UInt8) : ByteArray := ⟨l.toArray⟩
def wordsT : List (List UInt8) := [[100, 97, 116, 97], [119, 105, 110, 100, 111, 119], [112, 105, 110, 103], [97, 119, 97, 121]]
def wordsF : List (List UInt8) := [[115, 121, 110], [97, 99, 107], [102, 105, 110], [114, 115, 116]]
/-- the tables of words lie in memory, and the powers of ten -/
structure Words (w : World) : Prop where
  t : ∀ i, i < 4 → w.cell? ⟨6, i, none⟩ = some (.string (str (wordsT.getD i [])))
  f : ∀ i, i < 4 → w.cell? ⟨7, 2 * i, none⟩ = some (.int .u16 (2 ^ i : Nat))
  g : ∀ i, i < 4 → w.cell? ⟨7, 2 * i + 1, none⟩ = some (.string (str (wordsF.getD i [])))
  p : Pow10 w
theorem Words.later {w w' : World} (h : Words w) (hb : Below w.heap.size w w') : Words w' := by
  refine ⟨fun i hi => ?_, fun i hi => ?_, fun i hi => ?_, h.p.later hb⟩
  · have := h.t i hi
    rw [hb.cell (p := ⟨6, i, none⟩) (show 6 < w.heap.size from cell_lt this)]; exact this
  · have := h.f i hi
    rw [hb.cell (p := ⟨7, 2 * i, none⟩) (show 7 < w.heap.size from cell_lt this)]; exact this
  · have := h.g i hi
    rw [hb.cell (p := ⟨7, 2 * i + 1, none⟩) (show 7 < w.heap.size from cell_lt this)]; exact this

def tyW (t : Int) : List ByteArray := if t < 4 then [str (wordsT.getD t.toNat [])] else [str [116, 121, 112, 101], dg t]
set_option maxHeartbeats 2000000 in
theorem typeText_any (v t f s l : Int) (ht0 : 0 ≤ t) (ht1 : t ≤ 255) (w : World) (hw : Words w) :
    Calls Tryd.prog 16 #[hdr v t f s l] w fun e w' => ∃ x, e = .returned x ∧ Aside (OwnS w.heap.size w' x (tyW t)) ∧ Below w.heap.size w w' := by
  by_cases h4 : t < 4
  · have hT : ∀ w : World, Calls Tryd.prog 20 #[hdr v t f s l] w fun e w' => e = .returned (.bool true) ∧ w' = w.alloc (hbox v t f s l) := fun w => by simpa [h4] using typeMayBe_any v t f s l w ht0 ht1
    have hx : tyW t = [str (wordsT.getD t.toNat [])] := if_pos h4
    have hc := hw.t t.toNat (by omega)
    obtain ⟨ti, rfl⟩ := Int.eq_ofNat_of_zero_le ht0
    simp only [Int.toNat_natCast] at hc hx
    have hc' := fun o o' => cell_alloc o' (cell_alloc o hc)
    have HX := Aside.mk hx
    clear hx hw hc
    generalize wordsT.getD ti [] = wd at *
    go_enter Tryd.func16, Tryd.ntmps16
    go_wp2_with (go_at_call 20; refine (hT _).mono ?_; rintro e w1 ⟨rfl, rfl⟩)
    go_ret
    refine ⟨_, rfl, ⟨?_⟩, ?_⟩
    · rw [HX.it]
      have h := own_newS (B := w.heap.size) ((w.alloc (hbox v ti f s l)).alloc (hbox v ti f s l)) [str wd] 1 rfl (by simp; omega) (by decide)
      have hz : ((w.alloc (hbox v ti f s l)).alloc (hbox v ti f s l)).heap.size = w.heap.size + 1 + 1 := by simp
      rw [hz] at h
      exact h
    · repeat first | exact Below.refl _ _ | refine Below.alloc ?_ (by simp <;> omega) _
  · have hT : ∀ w : World, Calls Tryd.prog 20 #[hdr v t f s l] w fun e w' => e = .returned (.bool false) ∧ w' = w.alloc (hbox v t f s l) := fun w => by simpa [h4] using typeMayBe_any v t f s l w ht0 ht1
    have HX := Aside.mk (show tyW t = [str [116, 121, 112, 101], dg t] from if_neg h4)
    have D := Aside.mk (digits_any t ht0 (by omega) ((w.alloc (hbox v t f s l)).alloc (hbox v t f s l)) (hw.p.later (alloc2_below _ _ _)))
    clear hw
    go_enter Tryd.func16, Tryd.ntmps16
    go_wp2_with (first
      | (go_at_call 20; refine (hT _).mono ?_; rintro e w1 ⟨rfl, rfl⟩)
      | (go_at_call 17; refine D.it.mono ?_; rintro e w2 ⟨rfl, hb⟩))
    go_ret
    have hb' : Below w.heap.size w w2 := (alloc2_below w (hbox v t f s l) (hbox v t f s l)).trans (hb.mono (by simp; omega))
    refine ⟨_, rfl, ⟨?_⟩, hb'.alloc hb'.size _⟩
    rw [HX.it]
    exact own_newS (B := w.heap.size) w2 [str [116, 121, 112, 101], dg t] 2 rfl hb'.size (by decide)
end Go.Proofs.YtfpdllckpcjgdaaDoor
