/-
  RingFlow's world: a ring of bytes of 1's, what went in (2's), what came out (3's), a list between (4's), the flow in its box
-/
import Derived.Test.YtgoikhfikmmngaaDoorRingObyte
import Derived.Test.YtgoikhfikmmngaaDoorRingHbyte
import Derived.Test.YtgoikhfikmmngaaDoorRowBO
import Derived.Test.YtgoikhfikmmngaaDoorRingFixed
import Derived.Test.YtgoikhfikmmngaaDoorOpenFl
import Derived.Deep.Cut
import Derived.Deep.RegionHeldLaw
import Derived.Deep.DeepCutAuto
namespace Go.Proofs.YtgoikhfikmmngaaDoor
open Go.RowKit

section
variable {own own' : Nat → Nat} {w w' w0 : World} {x : Value} {b cap L TL : Nat} {items ins outs ts : List Int} {iv ov tv : Value} {fc : List Value} {I : Nat → Prop}
structure Fl2 (w0 : World) (x : Value) (cap : Nat) (items : List Int) (L : Nat) (iv : Value) (ins : List Int) (ov : Value) (outs : List Int) (tv : Value) (ts : List Int) (b : Nat) (fc : List Value) (own : Nat → Nat) (w : World) : Prop where
  ring : Rbyte.RingO own 1 w x cap (bv items)
  inn : RowB own 2 w iv ins
  out : RowB own 3 w ov outs
  tmp : RowO own 4 w 5 tv (bv ts)
  box : fc = [] ∨ CellsO own 0 w b 31 fc
  g : Ground w0.heap.size w0 own w
  len : items.length = L
theorem RowO.sn {i : Nat} {e : TypeId} {v : Value} {xs : List Value} (h : RowO own i w e v xs) (s : Sn I own w own' w') (hi : ¬ I i) : RowO own' i w' e v xs := by
  refine ⟨h.1.later s.keeps (fun k hk e => hi (h.2 k hk ▸ e)), fun k hk => ?_⟩
  rcases h.1 with ⟨rfl, _⟩ | ⟨g, rfl, hc⟩
  · cases hk
  · obtain rfl : g = k := by simpa [Value.ownBlock] using hk
    exact (s.agree g hc.lt).trans (h.2 g hk)
theorem RowO.rdB {i : Nat} {v : Value} {ns : List Int} (h : RowO own i w 5 v (bv ns)) : Rd w v ns := by
  refine ⟨h.reads, ?_⟩
  rcases h.1 with ⟨rfl, _⟩ | ⟨g, rfl, _⟩
  · intro l c e; cases e; rfl
  · intro l c e; cases e
theorem RowAt.shape {e : TypeId} {v : Value} {xs : List Value} (h : RowAt w e v xs) : ∃ q, v = .slice q xs.length xs.length := by
  rcases h with ⟨rfl, rfl⟩ | ⟨g, rfl, _⟩
  · exact ⟨_, rfl⟩
  · exact ⟨_, rfl⟩
theorem Fl2.len_cap (h : Aside (Fl2 w0 x cap items L iv ins ov outs tv ts b fc own w)) : L ≤ cap ∧ cap ≤ 2147483647 := by
  have := h.it.ring.len
  rw [bv_length, h.it.len] at this
  exact this
/-- what holds of all but the ring -/
theorem Fl2.step {items' : List Int} {L' : Nat} (h : Fl2 w0 x cap items L iv ins ov outs tv ts b fc own w) (hr : Rbyte.RingO own' 1 w' x cap (bv items')) (s : Sn (fun k => k = 1) own w own' w') (hl : items'.length = L') : Fl2 w0 x cap items' L' iv ins ov outs tv ts b fc own' w' :=
  ⟨hr, h.inn.sn s (by decide), h.out.sn s (by decide), h.tmp.sn s (by decide), h.box.imp id (fun y => y.sn s (by decide)), h.g.sn s (by decide), hl⟩
theorem Fl2.quiet (h : Aside (Fl2 w0 x cap items L iv ins ov outs tv ts b fc own w)) (k : Keeps Nowhere w w') : Aside (Fl2 w0 x cap items L iv ins ov outs tv ts b fc own w') :=
  ⟨h.it.step (h.it.ring.quiet k) (Sn.same k) h.it.len⟩
theorem fl_len (h : Aside (Fl2 w0 x cap items L iv ins ov outs tv ts b fc own w)) : Calls Tryd.prog 10 #[x] w fun e w' => e = .returned (.int .i64 L) ∧ w' = w := by
  have := Rbyte.lenV h.it.ring
  rw [bv_length, h.it.len] at this
  exact this
theorem fl_free (h : Aside (Fl2 w0 x cap items L iv ins ov outs tv ts b fc own w)) : Calls Tryd.prog 7 #[x] w fun e w' => e = .returned (.int .i64 ((cap : Int) - L)) ∧ w' = w := by
  have := Rbyte.freeV h.it.ring
  rw [bv_length, h.it.len] at this
  exact this
theorem fl_push (h : Aside (Fl2 w0 x cap items L iv ins ov outs tv ts b fc own w)) (src : Value) (xs : List Int) (hx : Aside (Rd w0 src xs)) (hb : xs.length ≤ 1048576) :
    Calls Tryd.prog 8 #[x, src] w fun e w' => ∃ own', e = .returned (.int .i64 (min xs.length (cap - L) : Nat)) ∧ Aside (Fl2 w0 x cap (items ++ xs.take (min xs.length (cap - L))) (L + min xs.length (cap - L)) iv ins ov outs tv ts b fc own' w') := by
  have hr := h.it.g.reads (i := 1) hx.it.1 rfl (by decide)
  have K := Rbyte.pushV h.it.ring src (bv xs) hr (by rw [bv_length]; omega) (bv_one xs)
  rw [bv_length, bv_length, h.it.len] at K
  refine K.mono ?_
  rintro e w' ⟨rfl, hR, hk⟩
  have e1 : xs.take (min xs.length (cap - L)) = xs.take (cap - L) := by
    rcases Nat.le_total xs.length (cap - L) with h1 | h1
    · rw [Nat.min_eq_left h1, List.take_of_length_le h1, List.take_length]
    · rw [Nat.min_eq_right h1]
  refine ⟨_, rfl, ⟨h.it.step ?_ (Sn.by hk 1) ?_⟩⟩
  · rw [e1, bv_append, bv_take]
    exact Rbyte.RingO.mine0 hR
  · rw [List.length_append, List.length_take, h.it.len]; omega
theorem fl_drop (h : Aside (Fl2 w0 x cap items L iv ins ov outs tv ts b fc own w)) (n : Int) :
    Calls Tryd.prog 11 #[x, .int .i64 n] w fun e w' => ∃ own', e = .returned (.int .i64 (min n.toNat L : Nat)) ∧ Aside (Fl2 w0 x cap (items.drop (min n.toNat L)) (L - min n.toNat L) iv ins ov outs tv ts b fc own' w') := by
  have K := Rbyte.dropV h.it.ring n
  rw [bv_length, h.it.len] at K
  refine K.mono ?_
  rintro e w' ⟨rfl, hR, hk⟩
  have e1 : items.drop (min n.toNat L) = items.drop n.toNat := by
    rcases Nat.le_total n.toNat L with h1 | h1
    · rw [Nat.min_eq_left h1]
    · rw [Nat.min_eq_right h1, List.drop_eq_nil_of_le (by rw [h.it.len]; exact Nat.le_refl _), List.drop_eq_nil_of_le (by rw [h.it.len]; exact h1)]
  refine ⟨_, rfl, ⟨h.it.step ?_ (Sn.by hk 1) ?_⟩⟩
  · rw [e1, bv_drop]
    exact Rbyte.RingO.mine0 hR
  · rw [List.length_drop, h.it.len]
theorem fl_peek (h : Aside (Fl2 w0 x cap items L iv ins ov outs tv ts b fc own w)) :
    Calls Tryd.prog 9 #[x, .int .i64 L] w fun e w' => ∃ sq own', e = .returned (.slice sq L L) ∧ Aside (Fl2 w0 x cap items L iv ins ov outs (.slice sq L L) items b fc own' w') := by
  refine (Rbyte.peekV h.it.ring L).mono ?_
  rintro e w' ⟨s, rfl, hR, hn, hk⟩
  have sn : Sn (fun _ => False) own w (give own w.heap.size 4) w' := Sn.quiet hk 4
  have hR' : RowAt w' 5 s (bv items) := by
    have e : (bv items).take (L : Int).toNat = bv items := by rw [Int.toNat_natCast, List.take_of_length_le (by rw [bv_length, h.it.len]; exact Nat.le_refl _)]
    rw [e] at hR
    exact hR
  obtain ⟨sq, rfl⟩ := hR'.shape
  rw [bv_length, h.it.len] at hR' hn ⊢
  exact ⟨sq, _, rfl, ⟨h.it.ring.fresh hk 4, h.it.inn.sn sn (fun x => x), h.it.out.sn sn (fun x => x), ⟨hR', fun k hk' => give_new (hn k hk')⟩, h.it.box.imp id (fun y => y.sn sn (fun x => x)), h.it.g.sn sn (fun x => x), h.it.len⟩⟩
theorem fl_pop (h : Aside (Fl2 w0 x cap items L iv ins ov outs tv ts b fc own w)) (n : Int) :
    Calls Tryd.prog 12 #[x, .int .i64 n] w fun e w' => ∃ sq own', e = .returned (.slice sq (min n.toNat L) (min n.toNat L)) ∧ Aside (Fl2 w0 x cap (items.drop (min n.toNat L)) (L - min n.toNat L) iv ins ov outs (.slice sq (min n.toNat L) (min n.toNat L)) (items.take (min n.toNat L)) b fc own' w') := by
  refine (Rbyte.popV h.it.ring n).mono ?_
  rintro e w' ⟨s, z, rfl, hR, hz, _, hn, hring, hk⟩
  have e1 : items.drop (min n.toNat L) = items.drop n.toNat := by
    rcases Nat.le_total n.toNat L with h1 | h1
    · rw [Nat.min_eq_left h1]
    · rw [Nat.min_eq_right h1, List.drop_eq_nil_of_le (by rw [h.it.len]; exact Nat.le_refl _), List.drop_eq_nil_of_le (by rw [h.it.len]; exact h1)]
  have e2 : items.take (min n.toNat L) = items.take n.toNat := by
    rcases Nat.le_total n.toNat L with h1 | h1
    · rw [Nat.min_eq_left h1]
    · rw [Nat.min_eq_right h1, List.take_of_length_le (by rw [h.it.len]; exact Nat.le_refl _), List.take_of_length_le (by rw [h.it.len]; exact h1)]
  have sn : Sn (fun k => k = 1) own w (give (give own w.heap.size 4) z 1) w' := ⟨fun k hk' => by rw [give_old (Nat.lt_of_lt_of_le hk' hz), give_old hk'], hk⟩
  have hring' : Rbyte.RingO (give (give own w.heap.size 4) z 1) 1 w' x cap (bv (items.drop n.toNat)) := by rw [bv_drop]; exact Rbyte.RingO.mine hring 4 hz
  obtain ⟨sq, rfl⟩ := hR.shape
  have e3 : ((bv items).take n.toNat).length = min n.toNat L := by rw [List.length_take, bv_length, h.it.len]
  rw [e3] at hR hn ⊢
  refine ⟨sq, _, rfl, ⟨?_, h.it.inn.sn sn (by decide), h.it.out.sn sn (by decide), ⟨?_, fun k hk' => ?_⟩, h.it.box.imp id (fun y => y.sn sn (by decide)), h.it.g.sn sn (by decide), ?_⟩⟩
  · rw [e1]; exact hring'
  · rw [e2, bv_take]; exact hR
  · have := hn k hk'
    rw [give_old this.2, give_new this.1]
  · rw [List.length_drop, h.it.len]
theorem fl_clear (h : Aside (Fl2 w0 x cap items L iv ins ov outs tv ts b fc own w)) : Calls Tryd.prog 13 #[x] w fun e w' => ∃ own', e = .returned (.int .i64 L) ∧ Aside (Fl2 w0 x cap [] 0 iv ins ov outs tv ts b fc own' w') := by
  have K := Rbyte.clearV h.it.ring
  rw [bv_length, h.it.len] at K
  refine K.mono ?_
  rintro e w' ⟨rfl, hR, hk⟩
  exact ⟨_, rfl, ⟨h.it.step (Rbyte.RingO.mine0 hR) (Sn.by hk 1) rfl⟩⟩
theorem Fl2.inApp {v' : Value} {ms : List Int} (h : Aside (Fl2 w0 x cap items L iv ins ov outs tv ts b fc own w)) (o : Aside (w'.ownsRow 0 5 1 v' (ins ++ ms).length (bv (ins ++ ms)))) (k : Aside (Keeps (fun b => iv.ownBlock = some b) w w')) (bl : Aside (∀ b, v'.ownBlock = some b → iv.ownBlock = some b ∨ w.heap.size ≤ b)) :
    ∃ own', Aside (Fl2 w0 x cap items L v' (ins ++ ms) ov outs tv ts b fc own' w') := by
  obtain ⟨r, s⟩ := h.it.inn.app o.it k.it bl.it
  exact ⟨_, ⟨h.it.ring.others s.keeps (by decide) 2, r, h.it.out.sn s (by decide), h.it.tmp.sn s (by decide), h.it.box.imp id (fun y => y.sn s (by decide)), h.it.g.sn s (by decide), h.it.len⟩⟩
theorem Fl2.outApp {v' : Value} {ms : List Int} (h : Aside (Fl2 w0 x cap items L iv ins ov outs tv ts b fc own w)) (o : Aside (w'.ownsRow 0 5 1 v' (outs ++ ms).length (bv (outs ++ ms)))) (k : Aside (Keeps (fun b => ov.ownBlock = some b) w w')) (bl : Aside (∀ b, v'.ownBlock = some b → ov.ownBlock = some b ∨ w.heap.size ≤ b)) :
    ∃ own', Aside (Fl2 w0 x cap items L iv ins v' (outs ++ ms) tv ts b fc own' w') := by
  obtain ⟨r, s⟩ := h.it.out.app o.it k.it bl.it
  exact ⟨_, ⟨h.it.ring.others s.keeps (by decide) 3, h.it.inn.sn s (by decide), r, h.it.tmp.sn s (by decide), h.it.box.imp id (fun y => y.sn s (by decide)), h.it.g.sn s (by decide), h.it.len⟩⟩
/-- the flow's box; the list between is forgotten -/
theorem Fl2.start (h : Aside (Fl2 w0 x cap items L iv ins ov outs tv ts b fc own w)) (cs : List Value) : Aside (Fl2 w0 x cap items L iv ins ov outs (.slice none 0 0) [] w.heap.size cs (give own w.heap.size 0) (w.alloc (.cells cs.toArray 31))) := by
  have k : Keeps Nowhere w (w.alloc (.cells cs.toArray 31)) := (Keeps.refl _ _).alloc _
  have sn : Sn (fun _ => False) own w (give own w.heap.size 0) (w.alloc (.cells cs.toArray 31)) := Sn.quiet k 0
  exact ⟨⟨h.it.ring.fresh k 0, h.it.inn.sn sn (fun x => x), h.it.out.sn sn (fun x => x), ⟨.inl ⟨rfl, rfl⟩, fun k hk => by cases hk⟩, .inr ⟨Cells.new w _ _, give_new (Nat.le_refl _)⟩, h.it.g.sn sn (fun x => x), h.it.len⟩⟩
theorem Fl2.ends (h : Aside (Fl2 w0 x cap items L iv ins ov outs tv ts b fc own w)) : Aside (Fl2 w0 x cap items L iv ins ov outs (.slice none 0 0) [] 0 [] own w) :=
  ⟨⟨h.it.ring, h.it.inn, h.it.out, ⟨.inl ⟨rfl, rfl⟩, fun k hk => by cases hk⟩, .inl rfl, h.it.g, h.it.len⟩⟩
theorem Fl2.flow {p : Value} {n : Int} {d : Bool} (h : Aside (Fl2 w0 x cap items L iv ins ov outs tv ts b [p, .int .i64 n, .bool d] own w)) : w.cell? ⟨b, 0, none⟩ = some p ∧ w.cell? ⟨b, 1, none⟩ = some (.int .i64 n) ∧ w.cell? ⟨b, 2, none⟩ = some (.bool d) := by
  rcases h.it.box with h | h
  · cases h
  · exact ⟨by rw [h.1.cell]; rfl, by rw [h.1.cell]; rfl, by rw [h.1.cell]; rfl⟩
end
end Go.Proofs.YtgoikhfikmmngaaDoor
