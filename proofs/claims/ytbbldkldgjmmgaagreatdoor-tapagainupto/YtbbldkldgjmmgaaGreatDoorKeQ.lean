/-
  A region that draws and whose callees only make memory: walked over the family of worlds that keep all old blocks. Of whatever program.
-/
import Derived.Test.YtbbldkldgjmmgaaGreatDoorSma
import Derived.Deep.RegionWith
import Derived.BigQuiet
namespace Go.Proofs.YtbbldkldgjmmgaaGreatDoor
open Go.RowKit

theorem wp_region_quietF {P : Program} {κ : Type} (F : κ → World) {id : Nat} {Q : Exit → Act → World → Prop} {a : Act} {w : World} {l : List Oper} (hm : P.follows .mixedOrders = true) (hB : Region.lexB .any l.toArray = true) (n0 : κ) (h0 : F n0 = w.drew)
    (h : wpQuiet P l.toArray (fun w' => ∃ n, w' = F n) (fun a' => ∀ w', (∃ n, w' = F n) → Q .normal a' w') l a) : (Code.region id l.toArray true).wp P Q a w :=
  wp_region_quiet (C := fun w' => ∃ n, w' = F n) hm hB ⟨n0, h0.symm⟩ (by simpa using h)
/-- the worlds behind quiet calls -/
structure KeW (w1 : World) where
  W : World
  ok : Keeps Nowhere w1 W
theorem KeW.cell {w1 : World} {a : Addr} {u : Value} (h : w1.cell? a = some u) (n : KeW w1) : n.W.cell? a = some u := by
  rw [World.cell?_of_block (n.ok.block a.block (World.block_lt_of_cell? w1 _ h) (fun x => x))]
  exact h
theorem KeW.call {P : Program} {f : FuncId} {args : Array Value} {w1 : World} {v : Value} (h : ∀ W, Keeps Nowhere w1 W → Calls P f args W fun e w' => e = .returned v ∧ Aside (Keeps Nowhere W w')) (s : KeW w1) : Calls P f args s.W fun e w' => e = .returned v ∧ ∃ m : KeW w1, w' = m.W := by
  refine (h s.W s.ok).mono ?_
  rintro e w' ⟨rfl, k⟩
  exact ⟨rfl, ⟨w', s.ok.trans k.it⟩, rfl⟩
end Go.Proofs.YtbbldkldgjmmgaaGreatDoor
