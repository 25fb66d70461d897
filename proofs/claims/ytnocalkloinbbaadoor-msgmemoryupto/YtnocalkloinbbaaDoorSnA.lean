/-
  Steps by owners.
-/
import Derived.Test.YtnocalkloinbbaaDoorBase
namespace Go.Proofs.YtnocalkloinbbaaDoor
open Go.RowKit

abbrev ptr (p : Nat) : Value := .pointer (some ⟨p, 0, none⟩)
/-- a step by the owners I: own' says of old blocks what own says; only blocks of I's have changed -/
structure Sn (I : Nat → Prop) (own : Nat → Nat) (w : World) (own' : Nat → Nat) (w' : World) : Prop where
  agree : ∀ k, k < w.heap.size → own' k = own k
  keeps : Keeps (fun k => I (own k)) w w'
theorem Sn.refl (I : Nat → Prop) (own : Nat → Nat) (w : World) : Sn I own w own w := ⟨fun _ _ => rfl, Keeps.refl _ _⟩
theorem Sn.trans {I : Nat → Prop} {own own' own'' : Nat → Nat} {w w' w'' : World} (h : Sn I own w own' w') (h' : Sn I own' w' own'' w'') : Sn I own w own'' w'' :=
  ⟨fun k hk => (h'.agree k (Nat.lt_of_lt_of_le hk h.keeps.size)).trans (h.agree k hk), h.keeps.next h'.keeps (fun k e hk => by rw [h.agree k hk] at e; exact e)⟩
theorem Sn.mono {I J : Nat → Prop} {own own' : Nat → Nat} {w w' : World} (h : Sn I own w own' w') (hij : ∀ k, I k → J k) : Sn J own w own' w' := ⟨h.agree, h.keeps.mono (fun _ e _ => hij _ e)⟩
theorem Sn.quiet {I : Nat → Prop} {own : Nat → Nat} {w w' : World} (hk : Keeps Nowhere w w') (r : Nat) : Sn I own w (give own w.heap.size r) w' := ⟨fun _ h => give_old h, hk.any⟩
theorem Sn.same {I : Nat → Prop} {own : Nat → Nat} {w w' : World} (hk : Keeps Nowhere w w') : Sn I own w own w' := ⟨fun _ _ => rfl, hk.any⟩
theorem Sn.by {own : Nat → Nat} {w w' : World} {i : Nat} (hk : Keeps (fun k => own k = i) w w') (r : Nat) : Sn (fun k => k = i) own w (give own w.heap.size r) w' := ⟨fun _ h => give_old h, hk⟩
theorem CellsO.sn {I : Nat → Prop} {own own' : Nat → Nat} {w w' : World} {i g : Nat} {e : TypeId} {xs : List Value} (h : CellsO own i w g e xs) (s : Sn I own w own' w') (hi : ¬ I i) : CellsO own' i w' g e xs :=
  ⟨h.1.later s.keeps (fun e' => hi (h.2 ▸ e')), (s.agree g h.1.lt).trans h.2⟩
theorem Ground.sn {I : Nat → Prop} {own own' : Nat → Nat} {w w' w0 : World} {B : Nat} (h : Ground B w0 own w) (s : Sn I own w own' w') (hi : ¬ I 0) : Ground B w0 own' w' := by
  refine ⟨fun k hlt => (s.agree k (Nat.lt_of_lt_of_le hlt h.size)).trans (h.zero k hlt), below_next h.bel s.keeps h.size (fun k e _ => ?_), Nat.le_trans h.size s.keeps.size⟩
  rcases Nat.lt_or_ge k B with hlt | hge
  · rw [h.zero k hlt] at e; exact absurd e hi
  · exact hge
end Go.Proofs.YtnocalkloinbbaaDoor
