/-
  an IDs or nil in a law's world
-/
import Derived.Test.YthfedcebbnlmaaaDoorIdI
import Derived.Test.YthfedcebbnlmaaaDoorIdF
import Derived.Deep.CutBlock
namespace Go.Proofs.YthfedcebbnlmaaaDoor
open Go.RowKit

section
variable {own own' : Nat → Nat} {w w' w0 : World} {A : Nat → Addr} {X : List (Nat × TypeId × List Value)} {z : Option (Nat × Im)} {pv : Value}
def refC (z : Option (Nat × Im)) : List Value := [.int .i64 (zf z), .int .i64 (zb z), .int .i64 (zn z), .int .i64 (zM z), .int .i64 (zT z)]
structure Iz (A : Nat → Addr) (w0 : World) (X : List (Nat × TypeId × List Value)) (pv : Value) (z : Option (Nat × Im)) (own : Nat → Nat) (w : World) : Prop where
  it : Aside (IdW A w0 X z.toList own w)
  pv : zv z = pv
theorem Iz.quiet (h : Aside (Iz A w0 X pv z own w)) (k : Keeps Nowhere w w') : Aside (Iz A w0 X pv z own w') := ⟨⟨IdW.quiet h.it.it k, h.it.pv⟩⟩
theorem Iz.box (h : Aside (Iz A w0 X pv z own w)) (t : TypeId) (cs : List Value) : Aside (Iz A w0 ((w.heap.size, t, cs) :: X) pv z (give own w.heap.size 0) (w.alloc (.cells cs.toArray t))) := ⟨⟨IdW.box h.it.it t cs, h.it.pv⟩⟩
theorem Iz.sub {X' : List (Nat × TypeId × List Value)} (h : Aside (Iz A w0 X pv z own w)) (hX : ∀ x ∈ X', x ∈ X) : Aside (Iz A w0 X' pv z own w) := ⟨⟨IdW.sub h.it.it hX, h.it.pv⟩⟩
theorem Iz.ok (h : Aside (Iz A w0 X pv z own w)) : zOk z := IdW.zok h.it.it
theorem Iz.bel (h : Aside (Iz A w0 X pv z own w)) : Below w0.heap.size w0 w := IdW.bel h.it.it
theorem iz_next (h : Aside (Iz A w0 X pv z own w)) : Calls Tryd.prog 11 #[pv] w fun e w' => ∃ v, e = .returned (.tuple #[.int .u32 (zNextN z), v]) ∧ Hid (Coded A v (zNextE z)) ∧ Aside (Iz A w0 X pv (zNext z) own w') := by
  have := znext h.it.it
  rw [h.it.pv] at this
  refine this.mono ?_
  rintro e w' ⟨v, rfl, hv, Y⟩
  exact ⟨v, rfl, hv, ⟨Y, zv_next.trans h.it.pv⟩⟩
theorem iz_sent (h : Aside (Iz A w0 X pv z own w)) (id : Int) (h0 : 0 ≤ id) (h1 : id ≤ 4294967295) : Calls Tryd.prog 16 #[pv, .int .u32 id] w fun e w' => ∃ v, e = .returned v ∧ Hid (Coded A v (zSentE z id)) ∧ Aside (Iz A w0 X pv (zSent z id) own w') := by
  have := zsent h.it.it id h0 h1
  rw [h.it.pv] at this
  refine this.mono ?_
  rintro e w' ⟨v, rfl, hv, Y⟩
  exact ⟨v, rfl, hv, ⟨Y, (zv_sent id).trans h.it.pv⟩⟩
theorem iz_hear (h : Aside (Iz A w0 X pv z own w)) (id : Int) (h0 : 0 ≤ id) (h1 : id ≤ 4294967295) : Calls Tryd.prog 18 #[pv, .int .u32 id] w fun e w' => ∃ v, e = .returned v ∧ Hid (Coded A v (zHearE z id)) ∧ Aside (Iz A w0 X pv (zHear z id) own w') := by
  have := zhear h.it.it id h0 h1
  rw [h.it.pv] at this
  refine this.mono ?_
  rintro e w' ⟨v, rfl, hv, Y⟩
  exact ⟨v, rfl, hv, ⟨Y, (zv_hear id).trans h.it.pv⟩⟩
theorem iz_mineK (h : Aside (Iz A w0 X pv z own w)) (id : Int) (h0 : 0 ≤ id) : Calls Tryd.prog 21 #[pv, .int .u32 id] w fun e w' => e = .returned (.bool (zMine z id)) ∧ Aside (Keeps Nowhere w w') := by
  have := zmineK h.it.it id h0
  rw [h.it.pv] at this
  exact this
theorem iz_knownK (h : Aside (Iz A w0 X pv z own w)) (id : Int) (h0 : 0 ≤ id) : Calls Tryd.prog 19 #[pv, .int .u32 id] w fun e w' => e = .returned (.bool (zKnown z id)) ∧ Aside (Keeps Nowhere w w') := by
  have := zknownK h.it.it id h0
  rw [h.it.pv] at this
  exact this
theorem iz_leftK (h : Aside (Iz A w0 X pv z own w)) : Calls Tryd.prog 10 #[pv] w fun e w' => e = .returned (.int .i64 (zLeft z)) ∧ Aside (Keeps Nowhere w w') := by
  have := zleftK h.it.it
  rw [h.it.pv] at this
  exact this
theorem iz_marks (h : Aside (Iz A w0 X pv z own w)) : Calls Tryd.prog 23 #[pv] w fun e w' => e = .returned (.tuple #[.int .u32 (zM z), .int .u32 (zT z)]) ∧ Aside (Iz A w0 X pv z own w') := by
  have := zmarksK h.it.it
  rw [h.it.pv] at this
  refine this.mono ?_
  rintro e w' ⟨rfl, k⟩
  exact ⟨rfl, Iz.quiet h k.it⟩
theorem iz_code (h : Aside (Iz A w0 X pv z own w)) {v : Value} {k : Int} (hv : Hid (Coded A v k)) : Calls Tryd.prog 9 #[v] w fun e w' => e = .returned (.int .i64 k) ∧ w' = w := code14 h.it.it hv
theorem Iz.m {b : Nat} {t : TypeId} {z' : Option (Nat × Im)} (h : Aside (Iz A w0 ((b, t, refC z') :: X) pv z own w)) : w.cell? ⟨b, 0, none⟩ = some (.int .i64 (zf z')) ∧ w.cell? ⟨b, 1, none⟩ = some (.int .i64 (zb z')) ∧ w.cell? ⟨b, 2, none⟩ = some (.int .i64 (zn z')) ∧ w.cell? ⟨b, 3, none⟩ = some (.int .i64 (zM z')) ∧ w.cell? ⟨b, 4, none⟩ = some (.int .i64 (zT z')) := five (IdW.head h.it.it)
theorem Iz.mF {b : Nat} {t : TypeId} {z' : Option (Nat × Im)} (h : Aside (Iz A w0 ((b, t, refC z') :: X) pv z own w)) : w.frozen? ⟨b, 0, none⟩ = false ∧ w.frozen? ⟨b, 1, none⟩ = false ∧ w.frozen? ⟨b, 2, none⟩ = false ∧ w.frozen? ⟨b, 3, none⟩ = false ∧ w.frozen? ⟨b, 4, none⟩ = false := fiveF (IdW.head h.it.it)
theorem Iz.op {bm bo : Nat} {tm t : TypeId} {cs : List Value} {kind id : Int} (h : Aside (Iz A w0 ((bm, tm, cs) :: (bo, t, [.int .i64 kind, .int .u32 id]) :: X) pv z own w)) : w.cell? ⟨bo, 0, none⟩ = some (.int .i64 kind) ∧ w.cell? ⟨bo, 1, none⟩ = some (.int .u32 id) :=
  ⟨(IdW.head (IdW.tail h.it.it)).cell 0, (IdW.head (IdW.tail h.it.it)).cell 1⟩
/-- the document's box is written over -/
theorem Iz.put {bm bo bn : Nat} {kind id : Int} {y y' : Option (Nat × Im)} (h : Aside (Iz A w0 [(bn, 37, refC y'), (bm, 37, refC y), (bo, 41, [.int .i64 kind, .int .u32 id])] pv z own w)) :
    Aside (Iz A w0 [(bm, 37, refC y'), (bo, 41, [.int .i64 kind, .int .u32 id])] pv z own (((((w.setCell ⟨bm, 0, none⟩ (.int .i64 (zf y'))).setCell ⟨bm, 1, none⟩ (.int .i64 (zb y'))).setCell ⟨bm, 2, none⟩ (.int .i64 (zn y'))).setCell ⟨bm, 3, none⟩ (.int .i64 (zM y'))).setCell ⟨bm, 4, none⟩ (.int .i64 (zT y')))) :=
  ⟨⟨IdW.put5 (X := [(bo, 41, [.int .i64 kind, .int .u32 id])]) (IdW.tail h.it.it) (fun x hx => ⟨hx, by rw [List.mem_singleton.1 hx]; show (41 : Nat) ≠ 37; decide⟩) _ _ _ _ _, h.it.pv⟩⟩
theorem Ops14.read {w0 : World} {sa : Option Addr} {zs : List OpV14}
    (hat : ∀ i z, zs[i]? = some z → ∃ b o cs, sa = some ⟨b, o, none⟩ ∧ Op14Ok z cs ∧ cs.length = 2 ∧ ∀ j, j < 2 → w0.cell? ⟨b, o + i * 2 + j, none⟩ = cs[j]?) (k : Nat) (hk : k < zs.length) :
    ∃ (kind id : Int) (sb so : Nat), (0 ≤ id ∧ id ≤ 4294967295) ∧ sa = some ⟨sb, so, none⟩ ∧ zs[k]? = some ⟨kind, id⟩ ∧ w0.cell? ⟨sb, so + k * 2, none⟩ = some (.int .i64 kind) ∧ w0.cell? ⟨sb, so + k * 2 + 1, none⟩ = some (.int .u32 id) := by
  obtain ⟨sb, so, cs, rfl, hok, hl, hc⟩ := hat k zs[k] (List.getElem?_eq_getElem hk)
  have e := hok.1
  subst e
  exact ⟨_, _, sb, so, hok.2, rfl, List.getElem?_eq_getElem hk, hc 0 (by decide), hc 1 (by decide)⟩
end
end Go.Proofs.YthfedcebbnlmaaaDoor
