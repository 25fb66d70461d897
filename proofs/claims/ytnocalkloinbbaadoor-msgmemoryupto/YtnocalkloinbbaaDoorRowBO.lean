/-
  a row of bytes by its owner (as in OutE)
-/
import Derived.Test.YtnocalkloinbbaaDoorSnA
import Derived.Test.YtnocalkloinbbaaDoorAppO
import Derived.Test.YtnocalkloinbbaaDoorRdSeg
namespace Go.Proofs.YtnocalkloinbbaaDoor
open Go.RowKit
section
variable {own own' : Nat → Nat} {w w' : World} {I : Nat → Prop}
/-- a row of bytes that is o's -/
def RowB (own : Nat → Nat) (o : Nat) (w : World) (v : Value) (ns : List Int) : Prop := w.ownsRow 0 5 1 v ns.length (bv ns) ∧ ∀ b, v.ownBlock = some b → own b = o
theorem RowB.nil (own : Nat → Nat) (o : Nat) (w : World) : RowB own o w (.slice none 0 0) [] := ⟨World.ownsRow_nil _ _ _ _, fun b hb => by simp [Value.ownBlock] at hb⟩
theorem RowB.sn {o : Nat} {v : Value} {ns : List Int} (h : RowB own o w v ns) (s : Sn I own w own' w') (ho : ¬ I o) : RowB own' o w' v ns :=
  ⟨owns_later h.1 s.keeps (fun b hb e => ho (h.2 b hb ▸ e)), fun b hb => (s.agree b (owns_lt h.1 b hb)).trans (h.2 b hb)⟩
theorem RowB.rd {o : Nat} {v : Value} {ns : List Int} (h : RowB own o w v ns) : Rd w v ns := OwnB.rd (B := 0) h.1
theorem RowB.shape {o : Nat} {v : Value} {ns : List Int} (h : RowB own o w v ns) : ∃ p c, v = .slice p ns.length c := OwnB.shape (B := 0) h.1
/-- behind an append -/
theorem RowB.app {o : Nat} {v v' : Value} {ns ms : List Int} (h : RowB own o w v ns) (o1 : w'.ownsRow 0 5 1 v' ms.length (bv ms)) (k1 : Keeps (fun b => v.ownBlock = some b) w w') (b1 : ∀ b, v'.ownBlock = some b → v.ownBlock = some b ∨ w.heap.size ≤ b) :
    RowB (give own w.heap.size o) o w' v' ms ∧ Sn (fun k => k = o) own w (give own w.heap.size o) w' := by
  refine ⟨⟨o1, fun b hb => ?_⟩, ⟨fun _ hk => give_old hk, k1.mono (fun b hb _ => h.2 b hb)⟩⟩
  rcases b1 b hb with e | e
  · exact (give_old (owns_lt h.1 b e)).trans (h.2 b e)
  · exact give_new e
end
end Go.Proofs.YtnocalkloinbbaaDoor
