/-
  layer 7's laws: awake; a Send in a law's world
-/
import Derived.Test.YtefaicgfcibofaaDoorCredB
import Derived.Test.YtefaicgfcibofaaDoorOpenC
namespace Go.Proofs.YtefaicgfcibofaaDoor
open Go.RowKit

section
variable {own own' : Nat → Nat} {i : Nat} {w w' : World} {p : Nat} {W c s : Int} {I : Nat → Prop} {A : Nat → Addr}

theorem Coded.zero {v : Value} (h : Coded A v 0) : v = .nilIface := by
  rcases h with ⟨h, _⟩ | ⟨i, _, _, _, h⟩
  · exact h
  · omega
theorem Coded.pos {v : Value} {k : Int} (h : Coded A v k) (hk : k ≠ 0) : ∃ a, v = .iface 70 (.pointer (some a)) := by
  rcases h with ⟨_, h⟩ | ⟨i, _, _, h, _⟩
  · exact absurd h hk
  · exact ⟨_, h⟩

set_option maxHeartbeats 2000000 in
theorem awake7 (hs : Sents 70 codeVars A w) : Calls Tryd.prog 6 #[] w fun e w' => e = .returned (.bool true) ∧ Aside (Below w.heap.size w w') := by
  have G0 := Aside.mk (OnG.start hs)
  clear hs
  have N := Aside.mk (newC_ok 4 w (fun _ => 0) 1 (by decide) (by decide))
  go_enter Tryd.func6, Tryd.ntmps6
  go_upto_region 4 with (first | (go_at_call 7; refine N.it.mono ?_; rintro e w1 ⟨p, own1, rfl, X1⟩) | fail)
  have G1 := Aside.mk (G0.it.sn X1.it.2.2 (fun x => x))
  have P1 := Aside.mk (spend_under X1.it.1 5 G1.it.sents (by decide) (by decide) (by decide))
  go_wp2_with (first
    | (go_at_call 10; refine P2.it.mono ?_; rintro e w3 ⟨v3, own3, rfl, hv3, X3⟩; have G3 := Aside.mk (G2.it.sn X3.it.2 (by decide)); have e3 : v3 = .nilIface := Coded.zero hv3.out; subst e3; have HV := Aside.mk (haveC X3.it.1))
    | (go_at_call 10; refine P1.it.mono ?_; rintro e w2 ⟨v2, own2, rfl, hv2, X2⟩; have G2 := Aside.mk (G1.it.sn X2.it.2 (by decide)); have CD := Aside.mk (code_of (A := A) G2.it.sents hv2.out); have P2 := Aside.mk (spend_ok X2.it.1 3 G2.it.sents (by decide) (by decide)))
    | (go_at_call 9; refine CD.it.mono ?_; rintro e w' ⟨rfl, rfl⟩)
    | (go_at_call 14; refine HV.it.mono ?_; rintro e w' ⟨rfl, rfl⟩)
    | fail)
  go_ret
  exact ⟨rfl, ⟨G3.it.g.bel⟩⟩

/-- a law's world: a Send of 1's, above the ground -/
structure Pl7 (A : Nat → Addr) (w0 : World) (p : Nat) (W c s : Int) (own : Nat → Nat) (w : World) : Prop where
  send : SendO own 1 w p W c s
  g : OnG A w0 own w
/-- and a script's op in its box -/
structure Ro7 (A : Nat → Addr) (w0 : World) (p b : Nat) (z : OpV7) (W c s : Int) (own : Nat → Nat) (w : World) : Prop where
  pl : Pl7 A w0 p W c s own w
  box : CellsO own 0 w b 36 z.cells
section
variable {w0 : World} {b : Nat} {z : OpV7}
theorem Ro7.cells (h : Aside (Ro7 A w0 p b z W c s own w)) : w.cell? ⟨b, 0, none⟩ = some (.int .i64 z.kind) ∧ w.cell? ⟨b, 1, none⟩ = some (.int .i64 z.n) ∧ w.cell? ⟨b, 2, none⟩ = some (.int .u32 z.d) :=
  ⟨by rw [h.it.box.1.cell]; rfl, by rw [h.it.box.1.cell]; rfl, by rw [h.it.box.1.cell]; rfl⟩
theorem Pl7.quiet (h : Pl7 A w0 p W c s own w) (k : Keeps Nowhere w w') : Pl7 A w0 p W c s own w' := ⟨h.send.quiet k, h.g.quiet k⟩
theorem Ro7.quiet (h : Aside (Ro7 A w0 p b z W c s own w)) (k : Keeps Nowhere w w') : Aside (Ro7 A w0 p b z W c s own w') := ⟨⟨h.it.pl.quiet k, h.it.box.quiet k⟩⟩
theorem Ro7.drew (h : Aside (Ro7 A w0 p b z W c s own w)) : Aside (Ro7 A w0 p b z W c s own w.drew) := Ro7.quiet h (Keeps.refl _ _).drew
theorem Ro7.start (h : Aside (Pl7 A w0 p W c s own w)) (z : OpV7) : Aside (Ro7 A w0 p w.heap.size z W c s (give own w.heap.size 0) (w.alloc (.cells z.cells.toArray 36))) := by
  have k : Keeps Nowhere w (w.alloc (.cells z.cells.toArray 36)) := (Keeps.refl _ _).alloc _
  have s0 : Sn (fun _ => False) own w (give own w.heap.size 0) (w.alloc (.cells z.cells.toArray 36)) := Sn.quiet k 0
  exact ⟨⟨⟨h.it.send.sn s0 (fun x => x), h.it.g.sn s0 (fun x => x)⟩, ⟨Cells.new w _ _, give_new (Nat.le_refl _)⟩⟩⟩
theorem Ro7.sn {c' s' : Int} (h : Ro7 A w0 p b z W c s own w) (hs : SendO own' 1 w' p W c' s') (k : Sn (fun k => k = 1) own w own' w') : Ro7 A w0 p b z W c' s' own' w' :=
  ⟨⟨hs, h.pl.g.sn k (by decide)⟩, h.box.sn k (by decide)⟩
theorem spend7_ok (h : Aside (Ro7 A w0 p b z W c s own w)) (n : Int) (h0 : 0 ≤ n) (h1 : n ≤ c) : Calls Tryd.prog 10 #[ptr p, .int .i64 n] w fun e w' => ∃ s' own', e = .returned .nilIface ∧ Aside (Ro7 A w0 p b z W (c - n) s' own' w') := by
  refine (spend_ok h.it.pl.send n h.it.pl.g.sents h0 h1).mono ?_
  rintro e w' ⟨v, own', rfl, hv, X⟩
  have e := hv.out.zero
  subst e
  exact ⟨_, own', rfl, ⟨h.it.sn X.it.1 X.it.2⟩⟩
theorem spend7_no (h : Aside (Ro7 A w0 p b z W c s own w)) (n : Int) (h0 : n < 0 ∨ c < n) : Calls Tryd.prog 10 #[ptr p, .int .i64 n] w fun e w' => ∃ a own', e = .returned (.iface 70 (.pointer (some a))) ∧ Aside (Ro7 A w0 p b z W c s own' w') := by
  have K := spend_any h.it.pl.send n h.it.pl.g.sents
  have e1 : spC c n = c := by
    unfold spC
    split
    · rfl
    · rw [if_pos (by omega)]
  have e2 : spS c s n = s := by
    unfold spS
    split
    · rfl
    · rw [if_pos (by omega)]
  have e3 : spE c n ≠ 0 := by
    unfold spE
    split
    · decide
    · rw [if_pos (by omega)]; decide
  rw [e1, e2] at K
  refine K.mono ?_
  rintro e w' ⟨v, own', rfl, hv, X⟩
  obtain ⟨a, rfl⟩ := hv.out.pos e3
  exact ⟨a, own', rfl, ⟨h.it.sn X.it.1 X.it.2⟩⟩
theorem spend7_nil (h : Aside (Ro7 A w0 p b z W c s own w)) (n : Int) : Calls Tryd.prog 10 #[.pointer none, .int .i64 n] w fun e w' => e = .returned (.iface 70 (.pointer (some (A 0)))) ∧ Aside (Ro7 A w0 p b z W c s own w') := by
  refine (spend_nil n h.it.pl.g.sents).mono ?_
  rintro e w' ⟨rfl, k⟩
  exact ⟨rfl, Ro7.quiet h k.it⟩
theorem grant7_ok (h : Aside (Ro7 A w0 p b z W c s own w)) (n : Int) (h0 : 0 ≤ n) (h1 : c + n ≤ W) : Calls Tryd.prog 12 #[ptr p, .int .u32 n] w fun e w' => ∃ own', e = .returned .nilIface ∧ Aside (Ro7 A w0 p b z W (c + n) s own' w') := by
  refine (grant_ok h.it.pl.send n h.it.pl.g.sents h0 h1).mono ?_
  rintro e w' ⟨v, own', rfl, hv, X⟩
  have e := hv.out.zero
  subst e
  exact ⟨own', rfl, ⟨h.it.sn X.it.1 X.it.2⟩⟩
theorem grant7_no (h : Aside (Ro7 A w0 p b z W c s own w)) (n : Int) (hn : 0 ≤ n) (h0 : W < c + n) : Calls Tryd.prog 12 #[ptr p, .int .u32 n] w fun e w' => ∃ a own', e = .returned (.iface 70 (.pointer (some a))) ∧ Aside (Ro7 A w0 p b z W c s own' w') := by
  have K := grant_any h.it.pl.send n h.it.pl.g.sents hn
  have e1 : grC W c n = c := if_pos h0
  have e3 : grE W c n ≠ 0 := by unfold grE; rw [if_pos h0]; decide
  rw [e1] at K
  refine K.mono ?_
  rintro e w' ⟨v, own', rfl, hv, X⟩
  obtain ⟨a, rfl⟩ := hv.out.pos e3
  exact ⟨a, own', rfl, ⟨h.it.sn X.it.1 X.it.2⟩⟩
theorem grant7_nil (h : Aside (Ro7 A w0 p b z W c s own w)) (n : Int) : Calls Tryd.prog 12 #[.pointer none, .int .u32 n] w fun e w' => e = .returned (.iface 70 (.pointer (some (A 0)))) ∧ Aside (Ro7 A w0 p b z W c s own w') := by
  refine (grant_nil n h.it.pl.g.sents).mono ?_
  rintro e w' ⟨rfl, k⟩
  exact ⟨rfl, Ro7.quiet h k.it⟩
theorem code7_nil (h : Aside (Ro7 A w0 p b z W c s own w)) : Calls Tryd.prog 9 #[.iface 70 (.pointer (some (A 0)))] w fun e w' => e = .returned (.int .i64 1) ∧ w' = w :=
  code_of (A := A) h.it.pl.g.sents (Coded.mk 0 1 (by decide) (by decide) rfl)
theorem have7 (h : Aside (Ro7 A w0 p b z W c s own w)) : Calls Tryd.prog 14 #[ptr p] w fun e w' => e = .returned (.int .u32 c) ∧ w' = w := haveC h.it.pl.send
end
end
end Go.Proofs.YtefaicgfcibofaaDoor
