/-
  bytes that are read, by the owner of their block (as in OutA)
-/
import Derived.Test.YtnocalkloinbbaaDoorSnA
import Derived.Test.YtnocalkloinbbaaDoorOwnB
namespace Go.Proofs.YtnocalkloinbbaaDoor
open Go.RowKit

/-- bytes that are read, in a block that is j's -/
def RdO (own : Nat → Nat) (j : Nat) (w : World) (v : Value) (ns : List Int) : Prop := Rd w v ns ∧ ∀ g, v.ownBlock = some g → g < w.heap.size ∧ own g = j
theorem Rd.keep {S : Nat → Prop} {w w' : World} {v : Value} {ns : List Int} (h : Rd w v ns) (hk : Keeps S w w') (hs : ∀ g, v.ownBlock = some g → ¬ S g) : Rd w' v ns := by
  obtain ⟨⟨a, c, rfl, hl, hc⟩, hn⟩ := h
  refine ⟨⟨a, c, rfl, hl, fun k u hj => ?_⟩, hn⟩
  obtain ⟨x, hx, hn', hcell⟩ := hc k u hj
  refine ⟨x, hx, hn', ?_⟩
  rw [World.cell?_of_block (w := w) (hk.block _ (World.block_lt_of_cell? w _ hcell) (by rw [add_block]; exact hs _ (by rw [hx]; rfl)))]
  exact hcell
theorem RdO.sn {I : Nat → Prop} {own own' : Nat → Nat} {w w' : World} {j : Nat} {v : Value} {ns : List Int} (h : RdO own j w v ns) (s : Sn I own w own' w') (hj : ¬ I j) : RdO own' j w' v ns :=
  ⟨h.1.keep s.keeps (fun g hg e => hj ((h.2 g hg).2 ▸ e)), fun g hg => ⟨Nat.lt_of_lt_of_le (h.2 g hg).1 s.keeps.size, (s.agree g (h.2 g hg).1).trans (h.2 g hg).2⟩⟩

theorem RdO.shape {own : Nat → Nat} {j : Nat} {w : World} {v : Value} {ns : List Int} (h : RdO own j w v ns) : ∃ a c, v = .slice a ns.length c := h.1.shape
theorem Rd.at {w : World} {r : List Int} {v : Value} (h : Rd w v r) (hn : r ≠ []) : ∃ g o c, v = .slice (some ⟨g, o, none⟩) r.length c ∧ r.length ≤ c ∧ ∀ k u, (bv r)[k]? = some u → w.cell? ⟨g, o + k, none⟩ = some u := by
  obtain ⟨⟨a, c, rfl, hl, hcell⟩, _⟩ := h
  obtain ⟨y, ys, rfl⟩ : ∃ y ys, r = y :: ys := by
    cases r with
    | nil => exact absurd rfl hn
    | cons y ys => exact ⟨_, _, rfl⟩
  obtain ⟨ad, ha, _, hce⟩ := hcell 0 (.int .u8 y) rfl
  subst ha
  obtain ⟨g, o, sp⟩ := ad
  cases sp with
  | none =>
    refine ⟨g, o, c, by rw [bv_length], by rw [bv_length] at hl; exact hl, fun k u hk => ?_⟩
    obtain ⟨x, hx, _, h2⟩ := hcell k u hk
    cases hx
    rw [add_none] at h2
    exact h2
  | some s =>
    unfold World.cell? at hce
    have hs : ((⟨g, o, some s⟩ : Addr).add 0).spot.isSome = true := by rfl
    rw [hs] at hce
    split at hce <;> simp at hce
theorem rd_mk {w : World} {r : List Int} {g o l c : Nat} (hl : r.length = l) (hc : l ≤ c) (h : ∀ k u, (bv r)[k]? = some u → w.cell? ⟨g, o + k, none⟩ = some u) : Rd w (.slice (some ⟨g, o, none⟩) l c) r :=
  ⟨⟨_, c, by rw [bv_length, hl], by rw [bv_length]; omega, fun k u hk => ⟨_, rfl, fun x => x, by rw [add_none]; exact h k u hk⟩⟩, fun l c e => by injection e with e; cases e⟩
end Go.Proofs.YtnocalkloinbbaaDoor
