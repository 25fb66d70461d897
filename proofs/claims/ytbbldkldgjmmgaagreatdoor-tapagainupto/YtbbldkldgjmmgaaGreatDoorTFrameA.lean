/-
  package frame: the small questions of Check.
-/
import Derived.Test.YtbbldkldgjmmgaaGreatDoorTCode
import Derived.Test.YtbbldkldgjmmgaaGreatDoorBase
import Derived.Test.YtbbldkldgjmmgaaGreatDoorTabs
import Derived.WalkLawsBesides
import Derived.WalkSpells
import Derived.Laws.BitsAllLaws
import Derived.BigQuiet
import Derived.Deep.RegionWith
import Derived.Deep.RegionHeldLaw
import Derived.BigRegion
namespace Go.Proofs.YtbbldkldgjmmgaaGreatDoor
open Go.RowKit

/-- a header's value -/
abbrev hdr (v t f s l : Int) : Value := .agg #[.int .u8 v, .int .u8 t, .int .u16 f, .int .u32 s, .int .u32 l]
/-- the block in which a header that came in lies -/
abbrev hbox (v t f s l : Int) : Obj := .cells #[.int .u8 v, .int .u8 t, .int .u16 f, .int .u32 s, .int .u32 l] 31
/-- the table 'lawful', as the program lays it -/
def lawfulTab : List (List Bool) :=
  [[true, true, true, false, true, true, true, false, true, false, false, false, false, false, false, false],
   [true, true, true, false, true, true, true, false, true, false, false, false, false, false, false, false],
   [false, true, true, false, false, false, false, false, false, false, false, false, false, false, false, false],
   [true, false, false, false, false, false, false, false, false, false, false, false, false, false, false, false]]
/-- the table lies in memory -/
def Lawful (w : World) : Prop := ∀ i j, i < 4 → j < 16 → w.cell? ⟨7, i * 16 + j, none⟩ = some (.bool ((lawfulTab.getD i []).getD j false))
theorem Lawful.later {w w' : World} (h : Lawful w) (hb : Below w.heap.size w w') : Lawful w' := by
  intro i j hi hj
  have := h i j hi hj
  rw [← this]
  refine hb.cell (p := ⟨7, i * 16 + j, none⟩) ?_
  rcases Nat.lt_or_ge 7 w.heap.size with h' | h'
  · exact h'
  · simp [World.cell?, Array.getElem?_eq_none h'] at this
def lawfulB (t f : Int) : Bool := decide (f ≤ 15) && (lawfulTab.getD t.toNat []).getD f.toNat false

theorem cell_alloc {W : World} {a : Addr} {v : Value} (o : Obj) (h : W.cell? a = some v) : (W.alloc o).cell? a = some v := by
  have hlt : a.block < W.heap.size := by
    rcases Nat.lt_or_ge a.block W.heap.size with h' | h'
    · exact h'
    · simp [World.cell?, Array.getElem?_eq_none h'] at h
  rw [← h]
  exact ((Below.refl _ _).alloc (Nat.le_refl _) o).cell hlt
theorem alloc_below (w : World) (o : Obj) : Below w.heap.size w (w.alloc o) := (Below.refl _ _).alloc (Nat.le_refl _) o

theorem typeMayBe_any (v t f s l : Int) (w : World) (ht0 : 0 ≤ t) (ht1 : t ≤ 255) :
    Calls Tryz.prog 18 #[hdr v t f s l] w fun e w' => e = .returned (.bool (decide (t < 4))) ∧ w' = w.alloc (hbox v t f s l) := by
  go_enter Tryz.func18, Tryz.ntmps18
  go_wp2
  go_ret
  exact ⟨rfl, rfl⟩
theorem ofStream_any (v t f s l : Int) (w : World) :
    Calls Tryz.prog 42 #[hdr v t f s l] w fun e w' => e = .returned (.bool (t == 0 || t == 1)) ∧ w' = w.alloc (hbox v t f s l) := by
  go_enter Tryz.func42, Tryz.ntmps42
  go_wp2
  all_goals (go_ret; constructor <;> simp_all)
theorem flagsMayBe_any (v t f s l : Int) (w : World) (ht : 0 ≤ t) (ht4 : t < 4) (hf : 0 ≤ f) (hL : Lawful w) :
    Calls Tryz.prog 19 #[hdr v t f s l] w fun e w' => e = .returned (.bool (lawfulB t f)) ∧ ∃ n, w' = (w.alloc (hbox v t f s l)).drewN n := by
  by_cases h : f ≤ 15
  · have hc := hL t.toNat f.toNat (by omega) (by omega)
    obtain ⟨ti, rfl⟩ := Int.eq_ofNat_of_zero_le ht
    obtain ⟨fi, rfl⟩ := Int.eq_ofNat_of_zero_le hf
    simp only [Int.toNat_natCast] at hc
    have hc' := fun o => cell_alloc o hc
    clear hL
    go_enter Tryz.func19, Tryz.ntmps19
    go_wp2
    go_quiet (fail)
    go_wp2
    go_ret
    refine ⟨?_, _, rfl⟩
    simp [lawfulB, h]
  · clear hL
    have h' : decide (f ≤ 15) = false := decide_eq_false h
    go_enter Tryz.func19, Tryz.ntmps19
    go_wp2
    go_quiet (fail)
    go_wp2
    go_ret
    refine ⟨?_, _, rfl⟩
    simp [lawfulB]
    intro; omega
theorem streamMayBe_any (v t f s l : Int) (w : World) :
    Calls Tryz.prog 20 #[hdr v t f s l] w fun e w' => e = .returned (.bool ((t == 0 || t == 1) == (s != 0))) ∧ ∃ n, w' = ((w.alloc (hbox v t f s l)).alloc (hbox v t f s l)).drewN n := by
  have hc := ofStream_any v t f s l
  go_enter Tryz.func20, Tryz.ntmps20
  go_wp2_with fail
  go_region_with (go_at_call 42; refine (hc _).mono ?_; rintro e w1 ⟨rfl, rfl⟩)
  all_goals (go_wp2_with fail)
  all_goals (go_ret; first | exact ⟨rfl, 0, rfl⟩ | exact ⟨rfl, 1, rfl⟩ | exact ⟨rfl, 2, rfl⟩ | exact ⟨rfl, 3, rfl⟩ | exact ⟨rfl, 4, rfl⟩ | exact ⟨rfl, 5, rfl⟩)
def lenOk (t f l most : Int) : Bool :=
  if (t == 0 || t == 1) && (bits .and .u16 f 8 != 0) then l == 0 else if t == 0 then decide (l ≤ max most 0) else if t == 3 then decide (l ≤ 2) else true
theorem lengthMayBe_any (v t f s l most : Int) (w : World) (hl0 : 0 ≤ l) (hl1 : l ≤ 4294967295) :
    Calls Tryz.prog 21 #[hdr v t f s l, .int .i64 most] w fun e w' => e = .returned (.bool (lenOk t f l most)) ∧ w' = (w.alloc (hbox v t f s l)).alloc (hbox v t f s l) := by
  have hc := ofStream_any v t f s l
  go_enter Tryz.func21, Tryz.ntmps21
  go_wp2_with (go_at_call 42; refine (hc _).mono ?_; rintro e w1 ⟨rfl, rfl⟩)
  all_goals (go_ret; constructor <;> simp_all [lenOk])
  all_goals omega
end Go.Proofs.YtbbldkldgjmmgaaGreatDoor
