/-
  package msg: Feed of a dead reader, of nil; of any
-/
import Derived.Test.YtnocalkloinbbaaDoorMgD
namespace Go.Proofs.YtnocalkloinbbaaDoor
open Go.RowKit

section
variable {A : Nat → Addr} {w w' W w0 : World} {own own' : Nat → Nat} {i j d d2 p most : Nat} {h B bs l : List Int} {dead : Bool} {v : Value}
theorem feedM_nil (hs : Sents 74 codeVars A w) (v : Value) : Calls Tryd.prog 8 #[.pointer none, v] w fun e w' => e = .returned (.tuple #[.slice none 0 0, .iface 74 (.pointer (some (A 0)))]) ∧ ∃ m, w' = w.drewN m := by
  have hc := hs.cell 0 1 rfl
  clear hs
  go_enter Tryd.func8, Tryd.ntmps8
  go_wp2
  apply wp_scope_straight
  go_wp2
  go_quiet (fail)
  go_wp2

  rw [Exit.noGoto_ret]
  go_ret2
  exact ⟨rfl, _, rfl⟩
theorem feedM_dead (r : DeadI own i w p) (hs : Sents 74 codeVars A w) (v : Value) : Calls Tryd.prog 8 #[ptr p, v] w fun e w' => e = .returned (.tuple #[.slice none 0 0, .iface 74 (.pointer (some (A 33)))]) ∧ ∃ m, w' = w.drewN m := by
  have hc := hs.cell 33 2 rfl
  obtain ⟨_, _, c5⟩ := r.cells
  clear hs r
  go_enter Tryd.func8, Tryd.ntmps8
  go_wp2
  apply wp_scope_straight
  go_wp2
  go_quiet (fail)
  go_wp2
  rw [Exit.noGoto_ret]
  go_ret2
  exact ⟨rfl, _, rfl⟩
/-- what a Feed gives and leaves -/
def outM (most : Nat) (l : List Int) (dead : Bool) (bs : List Int) : MOut := if dead then ⟨[], [], true⟩ else parseM most (l ++ bs)
def codeF (dead : Bool) (o : MOut) : Int := if dead then 34 else codeM o
theorem feedM (G : OnG A w0 own w) (r : RdrO own i w p most l dead) {q : Option Addr} {ln c : Nat} (R : RdO own j w (.slice q ln c) bs) (hb : AreBytes bs) (wh : Who i j d d2) (hL : bs.length ≤ 2199023255552) : Calls Tryd.prog 8 #[ptr p, .slice q ln c] w fun e w' => ∃ fq fl fc ev own', e = .returned (.tuple #[.slice fq fl fc, ev]) ∧ Hid (Coded A ev (codeF dead (outM most l dead bs))) ∧ Aside (OnG A w0 own' w' ∧ RowM own' d d2 w' (.slice fq fl fc) (outM most l dead bs).ms ∧ RdrO own' i w' p most (outM most l dead bs).rest (outM most l dead bs).dead ∧ Sx (WhoI i d) own w own' w') := by
  cases dead with
  | false => exact feedM_live G r R hb wh hL
  | true =>
    have r' := r
    unfold RdrO at r'
    refine (feedM_dead r'.1 G.sents _).mono ?_
    rintro e w' ⟨rfl, m, rfl⟩
    refine ⟨none, 0, 0, _, own, rfl, Coded.mk 33 34 (by decide) (by decide) rfl, ⟨G.quiet ((Keeps.refl _ _).drewN m), RowM.nil _ _ _ _, ?_, (Sn.same ((Keeps.refl _ _).drewN m)).sx⟩⟩
    have := r.quiet ((Keeps.refl _ _).drewN m)
    rw [r'.2] at this
    exact this
end
end Go.Proofs.YtnocalkloinbbaaDoor
