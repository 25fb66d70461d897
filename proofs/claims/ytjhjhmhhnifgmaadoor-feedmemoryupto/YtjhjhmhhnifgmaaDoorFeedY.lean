/-
  layer 5's laws: 'fixed', walked.
-/
import Derived.Test.YtjhjhmhhnifgmaaDoorFeedX
namespace Go.Proofs.YtjhjhmhhnifgmaaDoor
open Go.RowKit

section
variable {A : Nat → Addr} {w : World}
theorem Gr.start (B : Base A w) : Gr A w (fun _ => 0) w := ⟨B, fun _ _ => rfl, Below.refl _ _, Nat.le_refl _⟩
/-- a law's world with its decoder -/
structure Lw (A : Nat → Addr) (w0 : World) (own : Nat → Nat) (i j : Nat) (p : Nat) (most : Int) (hs : List Int) (dead : Option (List Int)) (w : World) : Prop where
  G : Gr A w0 own w
  D : DecS A own i j w p most hs dead
section
variable {w0 : World} {own : Nat → Nat} {i j p : Nat} {most : Int} {hs : List Int} {dead : Option (List Int)}
theorem Lw.quiet {w' : World} (h : Lw A w0 own i j p most hs dead w) (hk : Keeps Nowhere w w') : Lw A w0 own i j p most hs dead w' := ⟨h.G.quiet hk, h.D.quiet hk⟩
theorem held_l (h : Aside (Lw A w0 own i j p most hs dead w)) (n : Nat) (hn : heldS hs dead = n) :
    Calls Tryd.prog 10 #[dPtr p] w fun e w' => e = .returned (.int .i64 n) ∧ Aside (Lw A w0 own i j p most hs dead w') ∧ Aside (Keeps Nowhere w w') :=
  (held_s h.it.D).mono (by rintro e w' ⟨rfl, hk⟩; exact ⟨by rw [hn], ⟨h.it.quiet hk⟩, ⟨hk⟩⟩)
theorem wants_l (h : Aside (Lw A w0 own i j p most hs dead w)) (n : Nat) (hn : wantsS hs dead = n) :
    Calls Tryd.prog 12 #[dPtr p] w fun e w' => e = .returned (.int .i64 n) ∧ Aside (Lw A w0 own i j p most hs dead w') ∧ Aside (Keeps Nowhere w w') :=
  (wants_s h.it.D).mono (by rintro e w' ⟨rfl, hk⟩; exact ⟨by rw [hn], ⟨h.it.quiet hk⟩, ⟨hk⟩⟩)
theorem err_l (h : Aside (Lw A w0 own i j p most hs dead w)) :
    Calls Tryd.prog 17 #[dPtr p] w fun e w' => ∃ ev, e = .returned ev ∧ Aside (ErrS A own j w' most ev dead) ∧ Aside (Lw A w0 own i j p most hs dead w') ∧ Aside (Keeps Nowhere w w') :=
  (err_s h.it.D).mono (by rintro e w' ⟨ev, rfl, he, hk⟩; exact ⟨ev, rfl, he, ⟨h.it.quiet hk.it⟩, hk⟩)
theorem code_l {ev : Value} {d' : Option (List Int)} (h : Aside (Lw A w0 own i j p most hs dead w)) (E : Aside (ErrS A own j w most ev d')) (n : Int) (hn : codeS most d' = n) :
    Calls Tryd.prog 15 #[ev] w fun e w' => e = .returned (.int .i64 n) ∧ w' = w :=
  (code_s h.it.G.here E.it).mono (by rintro e w' ⟨rfl, rfl⟩; exact ⟨by rw [hn], rfl⟩)
theorem stream_l {ev : Value} {d' : Option (List Int)} (h : Aside (Lw A w0 own i j p most hs dead w)) (E : Aside (ErrS A own j w most ev d')) (n : Int) (hn : strmS d' = n) :
    Calls Tryd.prog 14 #[ev] w fun e w' => e = .returned (.tuple #[.int .u32 n, .bool d'.isSome]) ∧ Aside (Lw A w0 own i j p most hs dead w') ∧ Aside (ErrS A own j w' most ev d') ∧ Aside (Keeps Nowhere w w') :=
  (stream_s h.it.G.here E.it).mono (by rintro e w' ⟨rfl, hk⟩; exact ⟨by rw [hn], ⟨h.it.quiet hk⟩, ⟨E.it.quiet hk⟩, ⟨hk⟩⟩)
theorem Fed.lw {own' : Nat → Nat} {W : World} {o : Out} {fv ev : Value} (h : Aside (Fed A w0 own i j w p most o own' W fv ev)) : Aside (Lw A w0 own' i j p most o.rest o.dead W) := ⟨⟨h.it.G, h.it.D⟩⟩
end
set_option maxHeartbeats 4000000 in
theorem fixed5 (B : Base A w) : Calls Tryd.prog 4 #[] w fun e w' => e = .returned (.bool true) ∧ Below w.heap.size w w' := by
  have N := Aside.mk (new_s (i := 1) (j := 2) (most := 3) (Gr.start B) (by decide) (by decide))
  have F1 : Aside (∀ own W p, Gr A w own W → DecS A own 1 2 W p 3 [] none → _) := ⟨fun own W p G D => feed_new G D fx1 6 rfl (areBytes_of _ (by decide)) (by decide) _ fx_1 (.cells #[.int .u8 0, .int .u8 1, .int .u8 0, .int .u8 1, .int .u8 0, .int .u8 0] 5) rfl⟩
  have F2 : Aside (∀ own W p, Gr A w own W → DecS A own 1 2 W p 3 fx1 none → _) := ⟨fun own W p G D => feed_new G D fx2 7 rfl (areBytes_of _ (by decide)) (by decide) _ fx_2 (.cells #[.int .u8 0, .int .u8 7, .int .u8 0, .int .u8 0, .int .u8 0, .int .u8 0, .int .u8 1] 5) rfl⟩
  have F3 : Aside (∀ own W p, Gr A w own W → DecS A own 1 2 W p 3 [1] none → _) := ⟨fun own W p G D => feed_new G D fx3 11 rfl (areBytes_of _ (by decide)) (by decide) _ fx_3 (.cells #[.int .u8 0, .int .u8 0, .int .u8 0, .int .u8 0, .int .u8 0, .int .u8 0, .int .u8 9, .int .u8 0, .int .u8 0, .int .u8 0, .int .u8 0] 5) rfl⟩
  clear B
  go_enter Tryd.func4, Tryd.ntmps4
  go_wp2_with (go_at_call 5; refine N.it.mono ?_; rintro e w1 ⟨p, own1, rfl, X1⟩)
  go_wp2_with (go_at_call 8; refine (F1.it own1 w1 p X1.it.1 X1.it.2.1).mono ?_; rintro e w2 ⟨q2, c2, ev2, own2, rfl, X2⟩; obtain rfl : ev2 = .nilIface := X2.it.E; have L2 := Fed.lw X2)
  go_wp2_with (first
    | (go_at_call 10; refine (held_l L2 6 rfl).mono ?_; rintro e w3 ⟨rfl, L3, _⟩)
    | (go_at_call 12; refine (wants_l L3 6 fx_want).mono ?_; rintro e w4 ⟨rfl, L4, _⟩)
    | (go_at_call 8; refine (F2.it own2 w4 p L4.it.G L4.it.D).mono ?_; rintro e w5 ⟨q5, c5, ev5, own5, rfl, X5⟩; obtain rfl : ev5 = .nilIface := X5.it.E; have L5 := Fed.lw X5; obtain ⟨g5, o5, dq5, dc5, rfl, C5, _⟩ := X5.it.F.reads.at (k := 0) rfl; have f0 : w5.cell? ⟨g5, o5, none⟩ = some (.int .u8 0) := (by simpa [fx_hv] using C5.it.1); have f1 : w5.cell? ⟨g5, o5 + 1, none⟩ = some (.int .u8 1) := (by simpa [fx_ht] using C5.it.2.1); have f2 : w5.cell? ⟨g5, o5 + 2, none⟩ = some (.int .u16 1) := (by simpa [fx_hf] using C5.it.2.2.1); have f3 : w5.cell? ⟨g5, o5 + 3, none⟩ = some (.int .u32 7) := (by simpa [fx_hs] using C5.it.2.2.2.1); have f4 : w5.cell? ⟨g5, o5 + 4, none⟩ = some (.int .u32 0) := (by simpa [fx_hl] using C5.it.2.2.2.2.1); have f5 : w5.cell? ⟨g5, o5 + 5, none⟩ = some (.slice dq5 0 dc5) := (by simpa using C5.it.2.2.2.2.2)))
  go_wp2_with (first
    | (go_at_call 10; refine (held_l L5 1 rfl).mono ?_; rintro e w6 ⟨rfl, L6, _⟩)
    | (go_at_call 8; refine (F3.it own5 w6 p L6.it.G L6.it.D).mono ?_; rintro e w7 ⟨q7, c7, ev7, own7, rfl, X7⟩; have L7 := Fed.lw X7; have E7 := Aside.mk X7.it.E)
    | (go_at_call 14; refine (stream_l L7 E7 9 fx_strm).mono ?_; rintro e w8 ⟨rfl, L8, E8, _⟩)
    | (go_at_call 15; refine (code_l L8 E8 1011 fx_code).mono ?_; rintro e w9 ⟨rfl, rfl⟩))
  go_ret
  exact ⟨rfl, L8.it.G.g.bel⟩
end
end Go.Proofs.YtjhjhmhhnifgmaaDoor
