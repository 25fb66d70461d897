/-
  package frame: the small questions of Check.
-/
import Derived.Test.YtfphoaphdfhhiaaDoorCode
import Derived.Test.YtfphoaphdfhhiaaDoorBase
import Derived.Test.YtfphoaphdfhhiaaDoorTabs
import Derived.WalkLawsBesides
import Derived.WalkSpells
import Derived.Laws.BitsAllLaws
import Derived.BigQuiet
import Derived.Deep.RegionWith
import Derived.Deep.RegionHeldLaw
import Derived.BigRegion
namespace Go.Proofs.YtfphoaphdfhhiaaDoor
open Go.RowKit

/-- a header's value -/
abbrev hdr (v t f s l : Int) : Value := .agg #[.int .u8 v, .int .u8 t, .int .u16 f, .int .u32 s, .int .u32 l]
/-- the block in which a header that came in lies -/
abbrev hbox (v t f s l : Int) : Obj := .cells #[.int .u8 v, .int .u8 t, .int .u16 f, .int .u32 s, .int .u32 l] 34
/-- the table 'lawful', as the program lays it -/
def lawfulTab : List (List Bool) :=
  [[true, true, true, false, true, true, true, false, true, false, false, false, false, false, false, false],
   [true, true, true, false, true, true, true, false, true, false, false, false, false, false, false, false],
   [false, true, true, false, false, false, false, false, false, false, false, false, false, false, false, false],
   [true, false, false, false, false, false, false, false, false, false, false, false, false, false, false, false]]
def lawfulB (t f : Int) : Bool := decide (f ≤ 15) && (lawfulTab.getD t.toNat []).getD f.toNat false

theorem cell_alloc {W : World} {a : Addr} {v : Value} (o : Obj) (h : W.cell? a = some v) : (W.alloc o).cell? a = some v := by
  have hlt : a.block < W.heap.size := by
    rcases Nat.lt_or_ge a.block W.heap.size with h' | h'
    · exact h'
    · simp [World.cell?, Array.getElem?_eq_none h'] at h
  rw [← h]
  exact ((Below.refl _ _).alloc (Nat.le_refl _) o).cell hlt
theorem alloc_below (w : World) (o : Obj) : Below w.heap.size w (w.alloc o) := (Below.refl _ _).alloc (Nat.le_refl _) o

def lenOk (t f l most : Int) : Bool :=
  if (t == 0 || t == 1) && (bits .and .u16 f 8 != 0) then l == 0 else if t == 0 then decide (l ≤ max most 0) else if t == 3 then decide (l ≤ 2) else true
end Go.Proofs.YtfphoaphdfhhiaaDoor
