/-
  layer 5's laws: 'gives', walked.
-/
import Derived.Test.YtjhjhmhhnifgmaaDoorGives
import Derived.Deep.DeepCutAuto
namespace Go.Proofs.YtjhjhmhhnifgmaaDoor
open Go.RowKit

section
variable {A : Nat → Addr} {own : Nat → Nat} {w w' : World} {p : Nat} {most : Int}
structure GvAt (A : Nat → Addr) (w : World) (own : Nat → Nat) (p : Nat) (most : Int) (o : Out) (fv ev : Value) (W : World) : Prop where
  G : Gr A w own W
  V : Gave A own 1 2 p most o fv ev W
structure GvMid (A : Nat → Addr) (w : World) (own : Nat → Nat) (p : Nat) (most : Int) (o1 o2 : Out) (fv ev gv ev2 : Value) (W : World) : Prop where
  G : Gr A w own W
  D : DecS A own 1 2 W p most o2.rest o2.dead
  F1 : FramesO own 2 W fv o1.fs
  E1 : ErrS A own 2 W most ev o1.dead
  F2 : FramesO own 2 W gv o2.fs
  E2 : ErrS A own 2 W most ev2 o2.dead
theorem feed_gv {W W' : World} {o : Out} {fv ev : Value} (h : GvAt A w own p most o fv ev W) (hk : Keeps Nowhere W W') (x : Value) (seg : List Int) (R : RdS (fun k => k < W.heap.size ∧ own k = 1) W' x seg) (hb : AreBytes seg) (hN : o.rest.length + seg.length ≤ 1099511627776) :
    Calls Tryd.prog 8 #[dPtr p, x] W' fun e w' => ∃ gq gl gc ev2 own2, e = .returned (.tuple #[.slice gq gl gc, ev2]) ∧ Aside (GvMid A w own2 p most o (feedO most o.rest o.dead seg) fv ev (.slice gq gl gc) ev2 w') := by
  refine (feed_a (by decide) (by decide) (by decide) h.G h.V.D hk x seg R hb hN).mono ?_
  rintro e w' ⟨gv, ev2, own2, rfl, X⟩
  obtain ⟨q, c, rfl⟩ := X.it.F.shape
  have he : ∀ k, k < W.heap.size → give own W.heap.size 3 k = own k := fun k hk => give_old hk
  exact ⟨q, _, c, ev2, own2, rfl, ⟨X.it.G, X.it.D, ((h.V.F.ext he).quiet hk).others X.it.K (by decide) X.it.ext, ((h.V.E.ext he).quiet hk).others X.it.K (by decide) X.it.ext, X.it.F, X.it.E⟩⟩
/-- behind the append -/
theorem gv_next {W W' : World} {o1 o2 : Out} {fv ev gv ev2 v' : Value} {xs ys : List FX} (h : GvMid A w own p most o1 o2 fv ev gv ev2 W) (y1 : xs.map (·.1) = o1.fs) (y2 : W.ownsRow 0 46 6 fv xs.length (fcells xs)) (y3 : ∀ k, fv.ownBlock = some k → own k = 2) (y4 : ∀ x ∈ xs, DataO own 2 W x.2 x.1.2)
    (z1 : ys.map (·.1) = o2.fs) (z4 : ∀ x ∈ ys, DataO own 2 W x.2 x.1.2) (o : W'.ownsRow 0 46 6 v' (xs.length + ys.length) (fcells xs ++ fcells ys)) (k2 : Keeps (fun b => fv.ownBlock = some b) W W') (b2 : ∀ b, v'.ownBlock = some b → fv.ownBlock = some b ∨ W.heap.size ≤ b) (ev3 : Value) (he3 : ErrS A own 2 W most ev3 o2.dead) :
    GvAt A w (give own W.heap.size 2) p most ⟨o1.fs ++ o2.fs, o2.rest, o2.dead⟩ v' ev3 W' := by
  have he : ∀ k, k < W.heap.size → give own W.heap.size 2 k = own k := fun k hk => give_old hk
  have k3 : Keeps (fun k => own k = 2) W W' := k2.mono (fun k e _ => y3 k e)
  have F := FramesO.join y2 y3 y4 z4 o k2 b2
  rw [y1, z1] at F
  refine ⟨h.G.step k3 (by decide) he, ?_, F, ?_⟩
  · have D := h.D
    have hne : ∀ b, fv.ownBlock = some b → own b ≠ 1 := fun b hb e => by rw [y3 b hb] at e; cases e
    show DecS A _ 1 2 W' p most o2.rest o2.dead
    cases hd : o2.dead with
    | none =>
      rw [hd] at D
      obtain ⟨⟨g, ⟨hp, ⟨hv, dd, ho⟩, hb, hgb⟩, hg⟩, l⟩ := D
      exact ⟨⟨g, ⟨(he p dd.c.lt).trans hp, ⟨hv, ⟨dd.c.later k2 (fun e => hne p e hp), owns_later dd.r k2 (fun b hb e => hne b e (ho b hb))⟩, fun k hk => (he k (owns_lt dd.r k hk)).trans (ho k hk)⟩, hb, hgb⟩, hg⟩, l⟩
    | some hh =>
      rw [hd] at D
      obtain ⟨vb, hp, ⟨g, c⟩, v1, k, v2, v3, v4, v5⟩ := D
      refine ⟨vb, (he p c.lt).trans hp, ⟨g, c.later k2 (fun e => hne p e hp)⟩, (he vb v5.lt).trans v1, k, v2, v3, v4, v5.later k2 (fun e => ?_)⟩
      exact owns_ne y2 v5 (by decide) e
  · show ErrS A _ 2 W' most ev3 o2.dead
    cases hd : o2.dead with
    | none => rw [hd] at he3; exact he3
    | some hh =>
      rw [hd] at he3
      obtain ⟨vb, e, v1, k, v2, v3, v4, v5⟩ := he3
      exact ⟨vb, e, (he vb v5.lt).trans v1, k, v2, v3, v4, v5.later k2 (fun e => owns_ne y2 v5 (by decide) e)⟩
theorem take_more (bs : List Int) (a n : Nat) : bs.take (a + n) = bs.take a ++ (bs.drop a).take n := by rw [List.take_add]
end
end Go.Proofs.YtjhjhmhhnifgmaaDoor
