/-
  layer 10's laws: Small, copied, awake; a stream or nil.
-/
import Derived.Test.YteghehhifebhcaaDoorOStmV
import Derived.Test.YteghehhifebhcaaDoorOStmJ
import Derived.Test.YteghehhifebhcaaDoorOStmK
namespace Go.Proofs.YteghehhifebhcaaDoor
open Go.RowKit

section
variable {own own' : Nat → Nat} {i : Nat} {w w' w0 : World} {p : Nat} {A : Nat → Addr} {d : Dm}
def small : Cf := ⟨4, 6, 3, 0, 0, 0, 0, 0⟩
theorem small10 (w : World) : Calls Tryd.prog 28 #[] w fun e w' => e = .returned small.val ∧ Aside (Keeps Nowhere w w') := by
  go_enter Tryd.func28, Tryd.ntmps28
  go_wp2
  go_returns
  exact ⟨rfl, ⟨Keeps.ofBelow (by go_grown)⟩⟩
theorem small_good : small.good = true := by decide
theorem copied10 (own : Nat → Nat) (o : Nat) (a : Option Addr) (n c : Nat) (ns : List Int) (hn : ns.length = n) (hr : Rd w (.slice a n c) ns) (hl : n ≤ 140737488355328) :
    Calls Tryd.prog 18 #[.slice a n c] w fun e w' => ∃ q' c', e = .returned (.slice q' n c') ∧ Aside (RowB (give own w.heap.size o) o w' (.slice q' n c') ns ∧ Keeps Nowhere w w') := by
  have K1 : Keeps Nowhere w (w.alloc (.cells #[] 5)) := (Keeps.refl _ _).alloc _
  have HR := Aside.mk (hr.later K1.bel)
  have HN := Aside.mk hn
  have HL := Aside.mk hl
  clear hr hn hl K1
  go_enter Tryd.func18, Tryd.ntmps18
  go_wp2_with (at_builtin; refine wpList_appendO rfl (.tmp 3) (.tmp 4) rfl (.slice (some ⟨w.heap.size, 0, none⟩) 0 0) (.slice a n c) [] ns (owns_any (owns_empty w 5)) HR.it (by have := HN.it; have := HL.it; simp; omega) rfl rfl ?_; intro q' l' c' w' o' k' b')
  go_ret
  have e : l' = n := by
    obtain ⟨x, y, e⟩ := owns_val o'.it
    injection e with _ e2 _
    rw [e2]
    simpa using HN.it
  subst e
  have hb : ∀ b, (Value.slice q' l' c').ownBlock = some b → w.heap.size ≤ b := fun b hb => by
    rcases b'.it b hb with e | e
    · simp only [Value.ownBlock, Option.some.injEq] at e
      omega
    · simp only [World.size_alloc] at e
      omega
  have o2 := o'.it
  simp only [List.nil_append] at o2
  refine ⟨q', c', rfl, ⟨⟨o2, fun b h => give_new (hb b h)⟩, ?_⟩⟩
  exact ((Keeps.refl Nowhere w).alloc _).next k'.it (fun k e hk => by simp only [Value.ownBlock, Option.some.injEq] at e; omega)
/-- what is written in awake: 97, 98 -/
theorem copied_reads {o : Nat} {v : Value} {ns : List Int} {I : Nat → Prop} (h : RowB own o w v ns) (ho : ¬ I o) : ReadsOff (fun k => I (own k)) w v (bv ns) := by
  obtain ⟨⟨a, c, rfl, hl, hc⟩, _⟩ := h.rd
  refine ⟨a, c, rfl, hl, fun j u hj => ?_⟩
  obtain ⟨x, rfl, _, hcell⟩ := hc j u hj
  refine ⟨x, rfl, fun e => ?_, hcell⟩
  have hb := h.2 x.block (by simp [Value.ownBlock])
  have e : I (own x.block) := e
  rw [hb] at e
  exact ho e
end
end Go.Proofs.YteghehhifebhcaaDoor
