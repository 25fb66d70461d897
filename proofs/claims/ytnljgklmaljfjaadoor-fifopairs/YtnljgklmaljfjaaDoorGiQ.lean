/-
  A region that draws inside a range's body, whose callees only make memory: by the lexical order alone. Of whatever program.
-/
import Derived.Test.YtnljgklmaljfjaaDoorGiH
import Derived.Test.YtnljgklmaljfjaaDoorKeQ
namespace Go.Proofs.YtnljgklmaljfjaaDoor
open Go.RowKit

theorem wpIn_region_quietR {P : Program} {Q : Exit → Act → World → Prop} {l n : Nat} {κ : Type} (F : κ → World) {id : Nat} {a : Act} {w : World} {os : List Oper} (hm : P.follows .mixedOrders = true) (hB : Region.lexB .any os.toArray = true) (hc : os.toArray.all notDefer = true) (n0 : κ) (h0 : F n0 = w.drew)
    (h : wpQuiet P os.toArray (fun w' => ∃ n, w' = F n) (fun a' => ∀ w', (∃ n, w' = F n) → Q .normal a' w') os a) : (Code.region id os.toArray true).wpIn (Fence.wide.inRound l) n P Q a w := by
  simp only [Region.lexB, Bool.and_eq_true] at hB
  have hA : wpAny P .any os.toArray (Only Q) os.toArray.size (Array.replicate os.toArray.size false) a w.drew := by
    refine wpAny_of_quiet (C := fun w' => ∃ n, w' = F n) (Q := fun a' => ∀ w', (∃ n, w' = F n) → Q .normal a' w') (fun a' w' hw' h => (show Only Q .normal a' w' from h w' hw')) _ _ _ _ ⟨n0, h0.symm⟩ ?_
    have := wpAnyQ_lex (C := fun w' => ∃ n, w' = F n) (md := .any) hB.1 os 0 (Array.replicate os.toArray.size false) a (by simp) (by simpa using hB.2) h
    simpa using this
  exact wpIn_mono (wpIn_region_any hm (wpAnyIn_of_plain (calm_of hc) only_lets _ _ _ _ hA)) (fun e _ _ hx => by cases e <;> first | exact hx | exact hx.elim)
end Go.Proofs.YtnljgklmaljfjaaDoor
