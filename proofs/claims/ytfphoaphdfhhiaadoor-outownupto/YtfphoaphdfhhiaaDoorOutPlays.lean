/-
  OutPlays, walked.
-/
import Derived.Test.YtfphoaphdfhhiaaDoorOStep1
import Derived.Test.YtfphoaphdfhhiaaDoorOStep4
namespace Go.Proofs.YtfphoaphdfhhiaaDoor
open Go.RowKit

section
variable {own own' own1 : Nat → Nat} {w w' w1 W : World} {p tot : Nat} {rs : List (List Int)}

def stepL (rs : List (List Int)) (z : OpV6) : List (List Int) := if z.kind = 1 then putL rs z.h.v z.h.t z.h.f z.h.s z.h.l z.ns else if z.kind = 2 then leftN rs z.n.toNat else if z.kind = 4 then [] else rs
theorem BufO.more {tot' : Nat} {i j : Nat} (h : BufO own i j w p rs tot) (ht : tot ≤ tot') : BufO own i j w p rs tot' := by
  obtain ⟨qp, q, hb⟩ := h
  exact ⟨qp, q, { hb with tot := Nat.le_trans hb.tot ht }⟩
theorem Stepped6.more {tot' : Nat} {e : Ending} (h : Stepped6 own w p rs tot e w') (ht : tot ≤ tot') : Stepped6 own w p rs tot' e w' := by
  obtain ⟨a, l, c, own', he, X⟩ := h
  exact ⟨a, l, c, own', he, ⟨X.it.1.more ht, X.it.2⟩⟩
theorem step_any6 {A : Nat → Addr} {w00 : World} (a : Option Addr) (l c : Nat) (h : BufO own 1 2 w p rs tot) (hr : RdL own 3 w (.slice a l c) rs) (g : OnG A w00 own w) (z : OpV6) (cs : List Value) (hz : Op6Ok w00 1048576 z cs) (htot : tot ≤ 4398044413932) :
    Calls Tryd.prog 6 #[ptr p, .agg #[.slice a l c], .agg z.cells.toArray] w fun e w' => Stepped6 own w p (stepL rs z) (tot + 1048588) e w' := by
  obtain ⟨_, hh, hd, _, _, hn⟩ := hz
  have hsl : ∃ a l c, z.sl = .slice a l c := by obtain ⟨a, c, e⟩ := hd.shape; exact ⟨_, _, _, e⟩
  unfold stepL
  by_cases h1 : z.kind = 1
  · rw [if_pos h1]
    exact step_put6 a l c h hr g z h1 hh hd hn htot
  · rw [if_neg h1]
    by_cases h2 : z.kind = 2
    · rw [if_pos h2]
      exact (step_take6 a l c h hr z hsl h2 (by omega)).mono fun e w' x => x.more (by omega)
    · rw [if_neg h2]
      by_cases h4 : z.kind = 4
      · rw [if_pos h4]
        exact (step_clear6 a l c h hr z hsl h4 (by omega)).mono fun e w' x => x.more (by omega)
      · rw [if_neg h4]
        by_cases h3 : z.kind = 3
        · exact (step_len6 a l c h hr z hsl h3 (by omega)).mono fun e w' x => x.more (by omega)
        · exact (step_none6 a l c h hr z hsl ⟨h1, h2, h3, h4⟩).mono fun e w' x => x.more (by omega)

/-- the play: buffer and document's, the document's in the box b -/
structure Pl6 (A : Nat → Addr) (w00 : World) (p b : Nat) (fv : Value) (rs : List (List Int)) (tot : Nat) (own : Nat → Nat) (W : World) : Prop where
  buf : BufO own 1 2 W p rs tot
  ref : RdL own 3 W fv rs
  g : OnG A w00 own W
  box : CellsO own 0 W b 28 [fv]
theorem Pl6.sn0 {A : Nat → Addr} {w00 : World} {b : Nat} {fv : Value} (h : Pl6 A w00 p b fv rs tot own W) (s : Sn (fun _ => False) own W own' w') : Pl6 A w00 p b fv rs tot own' w' :=
  ⟨h.buf.sn s (fun x => x) (fun x => x), h.ref.sn s (fun x => x), h.g.sn s (fun x => x), h.box.sn s (fun x => x)⟩
theorem Pl6.step {A : Nat → Addr} {w00 : World} {b : Nat} {a : Option Addr} {l c : Nat} (h : Pl6 A w00 p b (.slice a l c) rs tot own W) (z : OpV6) (cs : List Value) (hz : Op6Ok w00 1048576 z cs) (htot : tot ≤ 4398044413932) :
    Calls Tryd.prog 6 #[ptr p, .agg #[.slice a l c], .agg z.cells.toArray] W fun e w' => ∃ a' l' c' own', e = .returned (.tuple #[.agg #[.slice a' l' c'], .bool true]) ∧
      Aside ((BufO own' 1 2 w' p (stepL rs z) (tot + 1048588) ∧ RdL own' 3 w' (.slice a' l' c') (stepL rs z) ∧ OnG A w00 own' w' ∧ CellsO own' 0 w' b 28 [.slice a l c]) ∧ Sn OneTwo own W own' w') := by
  refine (step_any6 a l c h.buf h.ref h.g z cs hz htot).mono ?_
  rintro e w' ⟨a', l', c', own', rfl, X⟩
  exact ⟨a', l', c', own', rfl, ⟨⟨X.it.1, X.it.2.1, h.g.sn X.it.2.2 ot0, h.box.sn X.it.2.2 ot0⟩, X.it.2.2⟩⟩
/-- the document's new list is laid into the box -/
theorem Pl6.put {A : Nat → Addr} {w00 : World} {b : Nat} {fv : Value} {x : Value} (hb : BufO own 1 2 W p rs tot) (hr : RdL own 3 W fv rs) (hg : OnG A w00 own W) (hx : CellsO own 0 W b 28 [x]) (hle : w00.heap.size ≤ b) : Pl6 A w00 p b fv rs tot own (W.setCell ⟨b, 0, none⟩ fv) := by
  have s : Sn (fun k => k = 0) own W own (W.setCell ⟨b, 0, none⟩ fv) := ⟨fun _ _ => rfl, (Keeps.refl _ _).setCell _ _ (fun _ => hx.2)⟩
  refine ⟨hb.sn s (by decide) (by decide), hr.sn s (by decide), ⟨⟨hg.g.zero, below_next hg.g.bel (S := fun k => k = b) ((Keeps.refl _ _).setCell _ _ (fun _ => rfl)) hg.g.size (fun k e _ => by omega), Nat.le_trans hg.g.size s.keeps.size⟩, hg.s⟩, ⟨hx.1.setCell 0 fv, hx.2⟩⟩

/-- what is read while a round goes on: the document's box, the script's op -/
def Held6 (b : Nat) (fv : Value) (sb o : Nat) (cs : List Value) (W : World) : Prop := W.cell? ⟨b, 0, none⟩ = some fv ∧ (∀ j, j < 8 → W.cell? ⟨sb, o + j, none⟩ = cs[j]?) ∧ cs.length = 8
section
variable {b sb o : Nat} {fv : Value} {cs : List Value}
theorem Held6.keep {S : Nat → Prop} (h : Held6 b fv sb o cs W) (hk : Keeps S W w') (h1 : ¬ S b) (h2 : ¬ S sb) : Held6 b fv sb o cs w' := by
  refine ⟨?_, fun j hj => ?_, h.2.2⟩
  · rw [World.cell?_of_block (w := W) (hk.block b (World.block_lt_of_cell? W _ h.1) h1)]; exact h.1
  · have h3 := h.2.1 j hj
    rw [List.getElem?_eq_getElem (by rw [h.2.2]; exact hj)] at h3 ⊢
    rw [World.cell?_of_block (w := W) (hk.block sb (World.block_lt_of_cell? W _ h3) h2)]
    exact h3
theorem Held6.quiet (h : Held6 b fv sb o cs W) (hk : Keeps Nowhere W w') : Held6 b fv sb o cs w' := h.keep hk (fun x => x) (fun x => x)
end
theorem succ_room {k : Nat} (h : k * 1048588 ≤ 4398044413932) : (k + 1) * 1048588 ≤ 4398046511103 :=
  Nat.le_trans (Nat.le_of_eq (Nat.succ_mul k 1048588)) (Nat.le_trans (Nat.add_le_add_right h 1048588) (Nat.le_of_ble_eq_true rfl))
def lenOp : OpV6 := ⟨3, ⟨0, 0, 0, 0, 0⟩, .slice none 0 0, [], 0⟩
theorem lenOp_sl : lenOp.sl = .slice none 0 0 := rfl
theorem lenOp_kind : lenOp.kind = 3 := rfl
end
end Go.Proofs.YtfphoaphdfhhiaaDoor
