/-
  package ids: what an IDs is in memory; its calls
-/
import Derived.Test.YthfedcebbnlmaaaDoorIdP
import Derived.Test.YthfedcebbnlmaaaDoorSn
import Derived.Test.YthfedcebbnlmaaaDoorCodedZ
import Derived.WalkLawsBesides
import Derived.WalkSpells
import Derived.BigQuiet
import Derived.Deep.RegionWith
import Derived.Deep.RegionHeldLaw
import Derived.BigRegion
import Derived.Handy
import Derived.Deep.Cut
namespace Go.Proofs.YthfedcebbnlmaaaDoor
open Go.RowKit

section
variable {own own' : Nat → Nat} {i : Nat} {w w' : World} {p : Nat} {x : Im} {I : Nat → Prop} {A : Nat → Addr}
/-- the table of both parities -/
structure Par (w : World) : Prop where
  c0 : w.cell? ⟨1, 0, none⟩ = some (.int .i64 2)
  c1 : w.cell? ⟨1, 1, none⟩ = some (.int .i64 4294967294)
  c2 : w.cell? ⟨1, 2, none⟩ = some (.int .i64 1)
  c3 : w.cell? ⟨1, 3, none⟩ = some (.int .i64 4294967295)
theorem Par.later (h : Par w) (hb : Below w.heap.size w w') : Par w' :=
  ⟨by rw [hb.cell (World.block_lt_of_cell? w _ h.c0)]; exact h.c0, by rw [hb.cell (World.block_lt_of_cell? w _ h.c1)]; exact h.c1, by rw [hb.cell (World.block_lt_of_cell? w _ h.c2)]; exact h.c2, by rw [hb.cell (World.block_lt_of_cell? w _ h.c3)]; exact h.c3⟩
structure St14 (A : Nat → Addr) (w : World) : Prop where
  s : Sents 82 codeVars A w
  par : Par w
theorem St14.later (h : St14 A w) (hb : Below w.heap.size w w') : St14 A w' := ⟨h.s.later hb, h.par.later hb⟩
theorem St14.quiet (h : St14 A w) (hb : Keeps Nowhere w w') : St14 A w' := h.later hb.bel
/-- the ground -/
structure OnI (A : Nat → Addr) (w0 : World) (own : Nat → Nat) (w : World) : Prop where
  g : Ground w0.heap.size w0 own w
  s : St14 A w0
theorem OnI.st {w0 : World} (h : OnI A w0 own w) : St14 A w := h.s.later h.g.bel
theorem OnI.sn {w0 : World} (h : OnI A w0 own w) (s : Sn I own w own' w') (hi : ¬ I 0) : OnI A w0 own' w' := ⟨h.g.sn s hi, h.s⟩
theorem OnI.quiet {w0 : World} (h : OnI A w0 own w) (hk : Keeps Nowhere w w') : OnI A w0 own w' := ⟨h.g.quiet hk, h.s⟩
theorem OnI.start (hs : St14 A w) : OnI A w (fun _ => 0) w := ⟨⟨fun _ _ => rfl, Below.refl _ _, Nat.le_refl _⟩, hs⟩

def idCells (x : Im) : List Value := [.int .u32 x.o, .int .i64 x.b, .int .i64 x.n, .int .u32 x.m0, .int .u32 x.m1]
/-- an IDs of i's -/
structure IdO (own : Nat → Nat) (i : Nat) (w : World) (p : Nat) (x : Im) : Prop where
  at_ : CellsO own i w p 60 (idCells x)
  ok : x.Ok
theorem IdO.sn (h : IdO own i w p x) (k : Sn I own w own' w') (hi : ¬ I i) : IdO own' i w' p x := ⟨h.at_.sn k hi, h.ok⟩
theorem IdO.quiet (h : IdO own i w p x) (k : Keeps Nowhere w w') : IdO own i w' p x := ⟨h.at_.quiet k, h.ok⟩
theorem IdO.cell0 (h : IdO own i w p x) : w.cell? ⟨p, 0, none⟩ = some (.int .u32 x.o) := by rw [h.at_.1.cell]; rfl
theorem IdO.cell1 (h : IdO own i w p x) : w.cell? ⟨p, 1, none⟩ = some (.int .i64 x.b) := by rw [h.at_.1.cell]; rfl
theorem IdO.cell2 (h : IdO own i w p x) : w.cell? ⟨p, 2, none⟩ = some (.int .i64 x.n) := by rw [h.at_.1.cell]; rfl
theorem IdO.cell3 (h : IdO own i w p x) : w.cell? ⟨p, 3, none⟩ = some (.int .u32 x.m0) := by rw [h.at_.1.cell]; rfl
theorem IdO.cell4 (h : IdO own i w p x) : w.cell? ⟨p, 4, none⟩ = some (.int .u32 x.m1) := by rw [h.at_.1.cell]; rfl

theorem parity_at (id : Int) (w : World) (h0 : 0 ≤ id) : Calls Tryd.prog 30 #[.int .u32 id] w fun e w' => e = .returned (.int .u32 (id % 2)) ∧ w' = w := by
  have e1 : id.tmod 2 = id % 2 := Int.tmod_eq_emod_of_nonneg h0
  have e2 : 0 ≤ id % 2 := by omega
  have e3 : id % 2 < 2 := by omega
  go_enter Tryd.func30, Tryd.ntmps30
  go_wp2
  go_ret
  exact ⟨by first | rfl | rw [e1], rfl⟩
theorem mine_at (h : IdO own i w p x) (id : Int) (h0 : 0 ≤ id) : Calls Tryd.prog 21 #[ptr p, .int .u32 id] w fun e w' => e = .returned (.bool (x.mine id)) ∧ ∃ m, w' = w.drewN m := by
  have c0 := h.cell0
  have K := Aside.mk (fun w => parity_at id w h0)
  clear h
  by_cases hn : id = 0
  · subst hn
    have e : x.mine 0 = false := rfl
    rw [e]
    go_enter Tryd.func21, Tryd.ntmps21
    go_wp2
    go_quiet (fail)
    go_wp2
    go_ret
    exact ⟨rfl, _, rfl⟩
  · go_enter Tryd.func21, Tryd.ntmps21
    go_wp2
    go_quiet (first | (go_at_call 30; exact Calls.quiet_of_same (K.it _)) | fail)
    go_wp2
    go_ret
    exact ⟨rfl, _, rfl⟩
theorem mine_nil (id : Int) (w : World) : Calls Tryd.prog 21 #[.pointer none, .int .u32 id] w fun e w' => e = .returned (.bool false) ∧ ∃ m, w' = w.drewN m := by
  go_enter Tryd.func21, Tryd.ntmps21
  go_wp2
  go_quiet (fail)
  go_wp2
  go_ret
  exact ⟨rfl, _, rfl⟩
theorem known_at (h : IdO own i w p x) (id : Int) (h0 : 0 ≤ id) : Calls Tryd.prog 19 #[ptr p, .int .u32 id] w fun e w' => e = .returned (.bool (x.known id)) ∧ ∃ m, w' = w.drewN m := by
  have c3 := h.cell3
  have c4 := h.cell4
  have K := Aside.mk (fun w => parity_at id w h0)
  clear h
  by_cases hn : id = 0
  · subst hn
    have e : x.known 0 = false := rfl
    rw [e]
    go_enter Tryd.func19, Tryd.ntmps19
    go_wp2
    go_quiet (fail)
    go_wp2
    go_ret
    exact ⟨rfl, _, rfl⟩
  · have e1 : (id != 0) = true := by simpa using hn
    have hp : id % 2 = 0 ∨ id % 2 = 1 := by omega
    rcases hp with hp | hp
    · have e : x.known id = (id != 0 && decide (id ≤ x.m0)) := by unfold Im.known; rw [hp]; rfl
      rw [e]
      rw [hp] at K
      clear hp e e1
      go_enter Tryd.func19, Tryd.ntmps19
      go_wp2
      go_quiet (first | (go_at_call 30; exact Calls.quiet_of_same (K.it _)) | fail)
      go_wp2
      go_ret
      exact ⟨rfl, _, rfl⟩
    · have e : x.known id = (id != 0 && decide (id ≤ x.m1)) := by unfold Im.known; rw [hp]; rfl
      rw [e]
      rw [hp] at K
      clear hp e e1
      go_enter Tryd.func19, Tryd.ntmps19
      go_wp2
      go_quiet (first | (go_at_call 30; exact Calls.quiet_of_same (K.it _)) | fail)
      go_wp2
      go_ret
      exact ⟨rfl, _, rfl⟩
theorem known_nil (id : Int) (w : World) : Calls Tryd.prog 19 #[.pointer none, .int .u32 id] w fun e w' => e = .returned (.bool false) ∧ ∃ m, w' = w.drewN m := by
  go_enter Tryd.func19, Tryd.ntmps19
  go_wp2
  go_quiet (fail)
  go_wp2
  go_ret
  exact ⟨rfl, _, rfl⟩
theorem gave_yes (h : IdO own i w p x) (id : Int) (h0 : 0 ≤ id) (h1 : id ≤ 4294967295) (hb : x.b ≤ id) (hn : id < x.n) : Calls Tryd.prog 28 #[ptr p, .int .u32 id] w fun e w' => e = .returned (.bool true) ∧ w' = w := by
  have c1 := h.cell1
  have c2 := h.cell2
  clear h
  go_enter Tryd.func28, Tryd.ntmps28
  go_wp2
  go_ret
  exact ⟨rfl, rfl⟩
theorem gave_no (h : IdO own i w p x) (id : Int) (h0 : 0 ≤ id) (h1 : id ≤ 4294967295) (hb : ¬ (x.b ≤ id ∧ id < x.n)) : Calls Tryd.prog 28 #[ptr p, .int .u32 id] w fun e w' => e = .returned (.bool false) ∧ w' = w := by
  have c1 := h.cell1
  have c2 := h.cell2
  clear h
  by_cases hx : x.b ≤ id
  · have hn : ¬ id < x.n := fun y => hb ⟨hx, y⟩
    clear hb
    go_enter Tryd.func28, Tryd.ntmps28
    go_wp2
    go_ret
    exact ⟨rfl, rfl⟩
  · clear hb
    go_enter Tryd.func28, Tryd.ntmps28
    go_wp2
    go_ret
    exact ⟨rfl, rfl⟩
theorem left_at (h : IdO own i w p x) (hp : Par w) : Calls Tryd.prog 10 #[ptr p] w fun e w' => e = .returned (.int .i64 x.left) ∧ ∃ m, w' = w.drewN m := by
  have c0 := h.cell0
  have c2 := h.cell2
  have d1 := hp.c1
  have d3 := hp.c3
  have n1 := h.ok.n3
  have n2 : 0 ≤ x.n := by have := h.ok.n1; have := h.ok.b1; have := h.ok.o01; omega
  have ho := h.ok.o01
  clear h hp
  rcases ho with ho | ho
  · rw [ho] at c0 n1
    have e : x.left = (4294967296 - x.n) / 2 := by unfold Im.left; rw [ho]; rfl
    rw [e]
    clear e ho
    go_enter Tryd.func10, Tryd.ntmps10
    go_wp2
    go_quiet (fail)
    go_wp2
    go_ret
    exact ⟨rfl, _, rfl⟩
  · rw [ho] at c0 n1
    have e : x.left = (4294967297 - x.n) / 2 := by unfold Im.left; rw [ho]; rfl
    rw [e]
    clear e ho
    go_enter Tryd.func10, Tryd.ntmps10
    go_wp2
    go_quiet (fail)
    go_wp2
    go_ret
    exact ⟨rfl, _, rfl⟩
theorem left_nil (w : World) : Calls Tryd.prog 10 #[.pointer none] w fun e w' => e = .returned (.int .i64 0) ∧ ∃ m, w' = w.drewN m := by
  go_enter Tryd.func10, Tryd.ntmps10
  go_wp2
  go_ret
  exact ⟨rfl, 0, rfl⟩
theorem marks_at (h : IdO own i w p x) : Calls Tryd.prog 23 #[ptr p] w fun e w' => e = .returned (.tuple #[.int .u32 (x.mark x.o), .int .u32 (x.mark (1 - x.o))]) ∧ ∃ m, w' = w.drewN m := by
  have c0 := h.cell0
  have c3 := h.cell3
  have c4 := h.cell4
  have ho := h.ok.o01
  clear h
  rcases ho with ho | ho
  · rw [ho] at c0
    have e1 : x.mark x.o = x.m0 := by unfold Im.mark; rw [ho]; rfl
    have e2 : x.mark (1 - x.o) = x.m1 := by unfold Im.mark; rw [ho]; rfl
    rw [e1, e2]
    clear e1 e2 ho
    go_enter Tryd.func23, Tryd.ntmps23
    go_wp2
    go_quiet (fail)
    go_wp2
    go_ret2
    exact ⟨rfl, _, rfl⟩
  · rw [ho] at c0
    have e1 : x.mark x.o = x.m1 := by unfold Im.mark; rw [ho]; rfl
    have e2 : x.mark (1 - x.o) = x.m0 := by unfold Im.mark; rw [ho]; rfl
    rw [e1, e2]
    clear e1 e2 ho
    go_enter Tryd.func23, Tryd.ntmps23
    go_wp2
    go_quiet (fail)
    go_wp2
    go_ret2
    exact ⟨rfl, _, rfl⟩
theorem marks_nil (w : World) : Calls Tryd.prog 23 #[.pointer none] w fun e w' => e = .returned (.tuple #[.int .u32 0, .int .u32 0]) ∧ ∃ m, w' = w.drewN m := by
  go_enter Tryd.func23, Tryd.ntmps23
  go_wp2
  go_ret2
  exact ⟨rfl, 0, rfl⟩
end
end Go.Proofs.YthfedcebbnlmaaaDoor
