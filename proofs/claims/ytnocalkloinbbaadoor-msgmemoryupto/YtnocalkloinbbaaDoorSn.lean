/-
  the ground with the sentinels
-/
import Derived.Test.YtnocalkloinbbaaDoorSnA
import Derived.Test.YtnocalkloinbbaaDoorCode
namespace Go.Proofs.YtnocalkloinbbaaDoor
open Go.RowKit

section
variable {own own' : Nat → Nat} {w w' : World} {I : Nat → Prop} {A : Nat → Addr}
theorem Sents.sn (h : Sents 74 codeVars A w) (hk : Below w.heap.size w w') : Sents 74 codeVars A w' := h.later hk
/-- the ground and a buffer above it -/
structure OnG (A : Nat → Addr) (w0 : World) (own : Nat → Nat) (w : World) : Prop where
  g : Ground w0.heap.size w0 own w
  s : Sents 74 codeVars A w0
theorem OnG.sents {w0 : World} (h : OnG A w0 own w) : Sents 74 codeVars A w := h.s.later h.g.bel
theorem OnG.sn {w0 : World} (h : OnG A w0 own w) (s : Sn I own w own' w') (hi : ¬ I 0) : OnG A w0 own' w' := ⟨h.g.sn s hi, h.s⟩
theorem OnG.quiet {w0 : World} (h : OnG A w0 own w) (hk : Keeps Nowhere w w') : OnG A w0 own w' := ⟨h.g.quiet hk, h.s⟩
theorem OnG.start (hs : Sents 74 codeVars A w) : OnG A w (fun _ => 0) w := ⟨⟨fun _ _ => rfl, Below.refl _ _, Nat.le_refl _⟩, hs⟩

end
end Go.Proofs.YtnocalkloinbbaaDoor
