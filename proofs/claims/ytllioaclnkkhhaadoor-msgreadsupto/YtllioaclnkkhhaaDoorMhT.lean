/-
  culvertlaw27.MsgReads: what stands in a round
-/
import Derived.Test.YtllioaclnkkhhaaDoorMhS
import Derived.Test.YtllioaclnkkhhaaDoorMhP
import Derived.Test.YtllioaclnkkhhaaDoorOpenPs
import Derived.Test.YtllioaclnkkhhaaDoorKeQ
namespace Go.Proofs.YtllioaclnkkhhaaDoor
open Go.RowKit

section
variable {A : Nat → Addr} {w w' W w0 w1 : World} {own own' : Nat → Nat} {p p' most mb : Nat} {F B bs : List Int} {v vq fv ev : Value} {O : MOut} {zs : List PcV} {I : Nat → Prop}
/-- the error that a number is -/
def errV (A : Nat → Addr) (k : Int) : Value := if k = 0 then .nilIface else .iface 86 (.pointer (some (A (k - 1).toNat)))
theorem Coded.val {x : Value} {k : Int} (h : Coded A x k) : x = errV A k := by
  unfold errV
  rcases h with ⟨rfl, rfl⟩ | ⟨i, h1, h2, rfl, rfl⟩
  · rfl
  · rw [if_neg (by omega), show ((i : Int) + 1 - 1).toNat = i by omega]
theorem fed_out (most : Nat) (F B : List Int) : (parseM most (fedM most F B)).rest = (outM most (parseM most F).rest (parseM most F).dead B).rest ∧ (parseM most (fedM most F B)).dead = (outM most (parseM most F).rest (parseM most F).dead B).dead ∧ gotM most F B = (outM most (parseM most F).rest (parseM most F).dead B).ms ∧ cdM most F B = codeF (parseM most F).dead (outM most (parseM most F).rest (parseM most F).dead B) := by
  rw [fedM_next]
  unfold gotM cdM codeF outM
  cases hd : (parseM most F).dead with
  | true => exact ⟨rfl, rfl, rfl, rfl⟩
  | false => exact ⟨rfl, rfl, rfl, rfl⟩
theorem held_same (F : List Int) : restM (parseM most F) = (parseM most F).rest.length := by
  unfold restM
  split
  · rename_i h; rw [parse_rest_dead h]; rfl
  · rfl
theorem done_same (F : List Int) : doneM (parseM most F) = doneC (parseM most F).rest (parseM most F).dead := by
  unfold doneM doneC
  rw [held_same]
/-- bytes that are read: if there are any, in a block that is j's -/
def RdP (own : Nat → Nat) (j : Nat) (W : World) (v : Value) (ns : List Int) : Prop := Rd W v ns ∧ (ns ≠ [] → ∀ g, v.ownBlock = some g → own g = j)
theorem RdP.sx {j : Nat} {ns : List Int} (h : RdP own j W v ns) (s : Sx I own W own' w') (hj : ¬ I j) : RdP own' j w' v ns := by
  by_cases hn : ns = []
  · subst hn
    obtain ⟨⟨a, c, rfl, hl, _⟩, h2⟩ := h.1
    exact ⟨⟨⟨a, c, rfl, hl, fun k u hk => by simp [bv] at hk⟩, h2⟩, fun e => absurd rfl e⟩
  · obtain ⟨g, o, c, rfl, _, hc⟩ := Rd.at h.1 hn
    obtain ⟨y, ys, rfl⟩ : ∃ y ys, ns = y :: ys := by cases ns with | nil => exact absurd rfl hn | cons y ys => exact ⟨y, ys, rfl⟩
    have hlt := World.block_lt_of_cell? W _ (hc 0 (.int .u8 y) rfl)
    have hr : RdO own j W (.slice (some ⟨g, o, none⟩) (y :: ys).length c) (y :: ys) := ⟨h.1, fun g' hg => ⟨by simp only [Value.ownBlock, Option.some.injEq] at hg; subst hg; exact hlt, h.2 hn g' hg⟩⟩
    have r2 := hr.sx s hj
    exact ⟨r2.1, fun _ g' hg => (r2.2 g' hg).2⟩
/-- the reader and the document's beside it, in m's box -/
structure Rg (A : Nat → Addr) (w1 : World) (own : Nat → Nat) (W : World) (p most : Nat) (F : List Int) (mb : Nat) (vq : Value) : Prop where
  L : Lm A w1 own W p most (parseM most F).rest (parseM most F).dead
  box : CellsO own 6 W mb 39 [.int .i64 most, vq]
  fed : RdP own 7 W vq F
  byt : AreBytes F
/-- in every world that only more memory parts from W -/
def Ke (W : World) (f : FuncId) (args : Array Value) (v : Value) : Prop := ∀ W', Keeps Nowhere W W' → Calls Tryd.prog f args W' fun e w' => e = .returned v ∧ Aside (Keeps Nowhere W' w')
theorem Ke.drew {f : FuncId} {args : Array Value} (h : ∀ W', Keeps Nowhere W W' → Calls Tryd.prog f args W' fun e w' => e = .returned v ∧ ∃ m, w' = W'.drewN m) : Ke W f args v := fun W' k => (h W' k).mono (by rintro e w' ⟨rfl, m, rfl⟩; exact ⟨rfl, ⟨(Keeps.refl _ _).drewN m⟩⟩)
theorem Ke.still {f : FuncId} {args : Array Value} (h : ∀ W', Keeps Nowhere W W' → Calls Tryd.prog f args W' fun e w' => e = .returned v ∧ w' = W') : Ke W f args v := fun W' k => (h W' k).mono (by rintro e w' ⟨rfl, rfl⟩; exact ⟨rfl, ⟨Keeps.refl _ _⟩⟩)
theorem Ke.below {f : FuncId} {args : Array Value} (h : ∀ W', Keeps Nowhere W W' → Calls Tryd.prog f args W' fun e w' => e = .returned v ∧ Aside (Below W'.heap.size W' w')) : Ke W f args v := fun W' k => (h W' k).mono (by rintro e w' ⟨rfl, hb⟩; exact ⟨rfl, ⟨Keeps.ofBelow hb.it⟩⟩)
theorem lm_held {l : List Int} {dead : Bool} (L : Lm A w0 own W p most l dead) : Ke W 18 #[ptr p] (.int .i64 l.length) := Ke.drew (fun _ k => heldM (L.quiet k).r)
theorem lm_done {l : List Int} {dead : Bool} (L : Lm A w0 own W p most l dead) : Ke W 20 #[ptr p] (errV A (doneC l dead)) := Ke.drew (fun _ k => (doneR (L.quiet k).r (L.quiet k).g.sents).mono (by rintro e w' ⟨ev, rfl, C, m, rfl⟩; exact ⟨by rw [C.out.val], m, rfl⟩))
theorem lm_code {l : List Int} {dead : Bool} {k : Int} (L : Lm A w0 own W p most l dead) (C : Coded A ev k) : Ke W 10 #[ev] (.int .i64 k) := Ke.still (fun _ kk => code_of (L.quiet kk).g.sents C)
theorem doneC_coded (A : Nat → Addr) (l : List Int) (dead : Bool) : Coded A (errV A (doneC l dead)) (doneC l dead) := by
  unfold doneC
  split
  · exact Coded.mk 33 34 (by decide) (by decide) rfl
  · split
    · exact Coded.mk 2 3 (by decide) (by decide) rfl
    · exact Coded.none
end
end Go.Proofs.YtllioaclnkkhhaaDoor
