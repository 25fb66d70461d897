/-
  the document's Text: the walk.
-/
import Derived.Test.YtfpdllckpcjgdaaDoorTextD
import Derived.Laws.BitsLemmas
namespace Go.Proofs.YtfpdllckpcjgdaaDoor
open Go.RowKit

theorem flB_len (f b : Int) (wd : List UInt8) : (flB f b wd).length ≤ wd.length + 1 := by unfold flB; split <;> simp
def flsB (f : Int) : List UInt8 := flB f 1 [115, 121, 110] ++ flB f 2 [97, 99, 107] ++ flB f 4 [102, 105, 110] ++ flB f 8 [114, 115, 116]
def furB (f : Int) : List UInt8 := if 15 < f then [32, 102, 108, 97, 103, 115, 32] ++ Lib.decDigits (f / 16 * 16).toNat else []
def verB (v : Int) : List UInt8 := if v = 0 then [] else [32, 118, 101, 114, 115, 105, 111, 110, 32] ++ Lib.decDigits v.toNat
def endB (s l : Int) : List UInt8 := [32, 115, 116, 114, 101, 97, 109, 32] ++ Lib.decDigits s.toNat ++ [32, 108, 101, 110, 103, 116, 104, 32] ++ Lib.decDigits l.toNat
def txB (v t f s l : Int) : List UInt8 := kiB t ++ verB v ++ flsB f ++ furB f ++ endB s l

structure RxAt (w : World) (v t f s l : Int) (wr : World) : Prop where
  h : HB w.heap.size v t f s l wr
  b : Below w.heap.size w wr
section
variable {w : World} {v t f s l : Int}
theorem RxAt.later {wr w' : World} (h : RxAt w v t f s l wr) (hb : Below wr.heap.size wr w') : RxAt w v t f s l w' := ⟨h.h.later hb, h.b.trans (hb.mono h.b.size)⟩
theorem RxAt.cells {wr : World} (h : Aside (RxAt w v t f s l wr)) : wr.cell? ⟨w.heap.size, 3, none⟩ = some (.int .u32 s) ∧ wr.cell? ⟨w.heap.size, 4, none⟩ = some (.int .u32 l) := ⟨h.it.h.2.2.2.1, h.it.h.2.2.2.2⟩
end

end Go.Proofs.YtfpdllckpcjgdaaDoor
