/-
  culvertref27: Length, Encode, size (the document's)
-/
import Derived.Test.YtnocalkloinbbaaDoorMsP
import Derived.Test.YtnocalkloinbbaaDoorAppO
import Derived.Test.YtnocalkloinbbaaDoorRowBO
import Derived.Laws.OwnMore
import Derived.Deep.CutBlock
import Derived.Deep.DeepCutAuto
import Derived.Deep.RegionHeld3
import Derived.Deep.RegionHeldLaw
import Derived.BigQuiet
import Derived.Handy
namespace Go.Proofs.YtnocalkloinbbaaDoor
open Go.RowKit

variable {w w' W : World} {v x : Value} {ns ms : List Int}
theorem ownB_lit (w : World) (ns : List Int) (n : Nat) (hn : ns.length = n) (hm : n ≤ 1000) : OwnB w.heap.size (w.alloc (.cells (bv ns).toArray 5)) (.slice (some ⟨w.heap.size, 0, none⟩) n n) ns := by
  have := World.ownsRow_lit (base := w.heap.size) (e := 5) (size := 1) w (bv ns).toArray n (Nat.le_refl _) (by unfold maxLen; omega) (by simp [bv_length, hn])
  unfold OwnB
  rw [hn]
  simpa using this
/-- a row of bytes that is new since w -/
structure Ny (w W : World) (v : Value) (ns : List Int) : Prop where
  row : OwnB w.heap.size W v ns
  k : Keeps Nowhere w W
/-- append(v, x...) of a row that is new since w -/
theorem appRun {m : Nat} (h : OwnB w.heap.size W v ns) (hk : Keeps Nowhere w W) (hx : Rd W x ms) (hb : ns.length + ms.length ≤ 140737488355328) (hm : (ns ++ ms).length = m) : ∃ (a : Option Addr) (c : Nat) (w' : World), (∀ ty, (Builtin.append_ #[29, 29] ty #[v, x]).run Tryd.prog W = .ok (.slice a m c) w') ∧ Aside (Ny w w' (.slice a m c) (ns ++ ms)) := by
  obtain ⟨i, hi, hz0, hz1, hz2⟩ := info_parts u8info
  have hown' : W.ownsRow w.heap.size 5 1 v (bv ns).length (bv ns) := by rw [bv_length]; exact h
  obtain ⟨v', w', run, o', g'⟩ := run_appendK (P := Tryd.prog) W w.heap.size 29 5 i _ 1 Tryd.underlying29 hi hz0 hz1 hz2 rfl v (bv ns) hown' x (bv ms) hx.1 hx.2 (bv_one ms) (by rw [bv_length, bv_length]; omega) (by rw [bv_length, bv_length]; unfold maxLen; omega) hk.size
  have o2 : OwnB w.heap.size w' v' (ns ++ ms) := by
    rw [← bv_append, bv_length] at o'
    exact o'
  obtain ⟨a, c, e⟩ := OwnB.shape o2
  rw [hm] at e
  subst e
  exact ⟨a, c, w', run, ⟨o2, hk.next (grown_keeps g') (fun b hb hlt => by have := owns_base h b hb; omega)⟩⟩
/-- append([]byte(nil-less), x...) -/
theorem copyRun {N : Nat} (hx : Rd W x ns) (hN : ns.length = N) (hb : N ≤ 140737488355328) : ∃ (a : Option Addr) (c : Nat) (w' : World), (∀ ty, (Builtin.append_ #[29, 29] ty #[.slice (some ⟨W.heap.size, 0, none⟩) 0 0, x]).run Tryd.prog (W.alloc (.cells #[] 5)) = .ok (.slice a N c) w') ∧ Aside (Ny W w' (.slice a N c) ns) := by
  have K : Keeps Nowhere W (W.alloc (.cells #[] 5)) := (Keeps.refl _ _).alloc _
  exact appRun (ns := []) (owns_empty W 5) K (hx.later K.bel) (by simp; omega) (by simpa using hN)
attribute [-go_sem] Builtin.append_
/-- which most there may be -/
def MostOk (most : Int) : Prop := 0 ≤ most ∧ most ≤ 1048576
/-- what Encode answers -/
def encE (m : List Int) (most : Int) : Int := if most < 0 ∨ 1048576 < most then 2 else if most < (m.length : Int) then 15 else 0
def encV (m : List Int) (most : Int) : List Int := if encE m most = 0 then encM m else []
end Go.Proofs.YtnocalkloinbbaaDoor
