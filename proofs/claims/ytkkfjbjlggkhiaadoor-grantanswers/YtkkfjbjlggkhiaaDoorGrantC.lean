/-
  layer 8's laws: fixed, GrantNames, GrantThreshold
-/
import Derived.Test.YtkkfjbjlggkhiaaDoorGrantB
namespace Go.Proofs.YtkkfjbjlggkhiaaDoor
open Go.RowKit

section
variable {own own' : Nat → Nat} {i : Nat} {w w' : World} {p : Nat} {W l u o : Int} {I : Nat → Prop} {A : Nat → Addr}
/-- a law's world: a Recv of 1's, above the ground -/
structure Pl8 (A : Nat → Addr) (w0 : World) (X : List (Nat × TypeId × List Value)) (p : Nat) (W l u o : Int) (own : Nat → Nat) (w : World) : Prop where
  recv : RecvO own 1 w p W l u o
  g : OnF A w0 own w
  ex : ∀ x ∈ X, CellsO own 0 w x.1 x.2.1 x.2.2
section
variable {w0 : World} {X : List (Nat × TypeId × List Value)}
theorem Pl8.quiet (h : Aside (Pl8 A w0 X p W l u o own w)) (k : Aside (Keeps Nowhere w w')) : Aside (Pl8 A w0 X p W l u o own w') := ⟨⟨h.it.recv.quiet k.it, h.it.g.quiet k.it, fun x hx => (h.it.ex x hx).quiet k.it⟩⟩
theorem new8 (g : Aside (OnF A w0 own w)) (n : Int) (h1 : 1 ≤ n) (h2 : n ≤ 2147483647) : Calls Tryd.prog 9 #[.int .i64 n] w fun e w' => ∃ p own', e = .returned (.tuple #[ptr p, .nilIface]) ∧ Aside (Pl8 A w0 [] p n n 0 0 own' w') := by
  refine (newG_ok n w own 1 h1 h2).mono ?_
  rintro e w' ⟨p, own', rfl, X⟩
  exact ⟨p, own', rfl, ⟨X.it.1.recv, g.it.sn X.it.2.2 (fun x => x), fun _ hx => by cases hx⟩⟩
theorem arrive8_ok (h : Aside (Pl8 A w0 X p W l u o own w)) (n : Int) (h0 : 0 ≤ n) (h1 : n ≤ l) : Calls Tryd.prog 17 #[ptr p, .int .i64 n] w fun e w' => e = .returned .nilIface ∧ Aside (Pl8 A w0 X p W (l - n) (u + n) o own w') := by
  refine (arrive_ok (A := A) h.it.recv n h0 h1).mono ?_
  rintro e w' ⟨v, rfl, hv, Y⟩
  have e := hv.out.zero
  subst e
  exact ⟨rfl, ⟨Y.it.1, h.it.g.sn Y.it.2 (by decide), fun x hx => (h.it.ex x hx).sn Y.it.2 (by decide)⟩⟩
theorem arrive8_no (h : Aside (Pl8 A w0 X p W l u o own w)) (n : Int) (h0 : n < 0 ∨ l < n) : Calls Tryd.prog 17 #[ptr p, .int .i64 n] w fun e w' => ∃ a, e = .returned (.iface 89 (.pointer (some a))) ∧ Hid (Coded A (.iface 89 (.pointer (some a))) (arE l n)) ∧ Aside (Pl8 A w0 X p W l u o own w') := by
  have K := arrive_any h.it.recv n h.it.g.sents
  have e1 : arL l n = l := by unfold arL; split; rfl; rw [if_pos (by omega)]
  have e2 : arU l u n = u := by unfold arU; split; rfl; rw [if_pos (by omega)]
  have e3 : arE l n ≠ 0 := by
    unfold arE
    split
    · decide
    · rw [if_pos (by omega)]; decide
  rw [e1, e2] at K
  refine K.mono ?_
  rintro e w' ⟨v, rfl, hv, Y⟩
  obtain ⟨a, rfl⟩ := hv.out.pos e3
  exact ⟨a, rfl, hv, ⟨Y.it.1, h.it.g.sn Y.it.2 (by decide), fun x hx => (h.it.ex x hx).sn Y.it.2 (by decide)⟩⟩
theorem read8_less (h : Aside (Pl8 A w0 X p W l u o own w)) (n : Int) (h0 : 0 ≤ n) (h1 : n ≤ u) (h2 : o + n < (W + 1) / 2) : Calls Tryd.prog 19 #[ptr p, .int .i64 n] w fun e w' => e = .returned (.tuple #[.int .u32 0, .nilIface]) ∧ Aside (Pl8 A w0 X p W l (u - n) (o + n) own w') := by
  refine (read_less (A := A) h.it.recv n h0 h1 h2).mono ?_
  rintro e w' ⟨v, rfl, hv, Y⟩
  have e := hv.out.zero
  subst e
  exact ⟨rfl, ⟨Y.it.1, h.it.g.sn Y.it.2 (by decide), fun x hx => (h.it.ex x hx).sn Y.it.2 (by decide)⟩⟩
theorem read8_grant (h : Aside (Pl8 A w0 X p W l u o own w)) (n : Int) (h0 : 0 ≤ n) (h1 : n ≤ u) (h2 : ¬ o + n < (W + 1) / 2) : Calls Tryd.prog 19 #[ptr p, .int .i64 n] w fun e w' => e = .returned (.tuple #[.int .u32 (o + n), .nilIface]) ∧ Aside (Pl8 A w0 X p W (l + (o + n)) (u - n) 0 own w') := by
  refine (read_grant (A := A) h.it.recv n h0 h1 h2).mono ?_
  rintro e w' ⟨v, rfl, hv, Y⟩
  have e := hv.out.zero
  subst e
  exact ⟨rfl, ⟨Y.it.1, h.it.g.sn Y.it.2 (by decide), fun x hx => (h.it.ex x hx).sn Y.it.2 (by decide)⟩⟩
/-- a Read that is not refused: what it grants -/
theorem read8_ok (h : Aside (Pl8 A w0 X p W l u o own w)) (n : Int) (h0 : 0 ≤ n) (h1 : n ≤ u) : Calls Tryd.prog 19 #[ptr p, .int .i64 n] w fun e w' => ∃ g, (0 ≤ g ∧ g ≤ o + n ∧ g ≤ 2147483647) ∧ e = .returned (.tuple #[.int .u32 g, .nilIface]) ∧ Aside (Pl8 A w0 X p W (l + g) (u - n) (o + n - g) own w') := by
  have a1 := h.it.recv.cnt.o1
  have a2 := h.it.recv.cnt.sum
  have a3 := h.it.recv.cnt.w2
  have a4 := h.it.recv.cnt.l1
  by_cases h2 : o + n < (W + 1) / 2
  · refine (read8_less h n h0 h1 h2).mono ?_
    rintro e w' ⟨rfl, Y⟩
    refine ⟨0, by omega, rfl, ?_⟩
    rw [Int.add_zero, Int.sub_zero]
    exact Y
  · refine (read8_grant h n h0 h1 h2).mono ?_
    rintro e w' ⟨rfl, Y⟩
    refine ⟨o + n, by omega, rfl, ?_⟩
    rw [Int.sub_self]
    exact Y
theorem read8_no (h : Aside (Pl8 A w0 X p W l u o own w)) (n : Int) (h0 : n < 0 ∨ u < n) : Calls Tryd.prog 19 #[ptr p, .int .i64 n] w fun e w' => ∃ a, e = .returned (.tuple #[.int .u32 0, .iface 89 (.pointer (some a))]) ∧ Aside (Pl8 A w0 X p W l u o own w') := by
  by_cases hn : n < 0
  · refine (read_neg (A := A) h.it.recv n h.it.g.sents hn).mono ?_
    rintro e w' ⟨v, rfl, hv, Y⟩
    obtain ⟨a, rfl⟩ := hv.out.pos (by decide)
    exact ⟨a, rfl, ⟨Y.it.1, h.it.g.sn Y.it.2 (by decide), fun x hx => (h.it.ex x hx).sn Y.it.2 (by decide)⟩⟩
  · refine (read_over (A := A) h.it.recv n h.it.g.sents (by omega) (by omega)).mono ?_
    rintro e w' ⟨v, rfl, hv, Y⟩
    obtain ⟨a, rfl⟩ := hv.out.pos (by decide)
    exact ⟨a, rfl, ⟨Y.it.1, h.it.g.sn Y.it.2 (by decide), fun x hx => (h.it.ex x hx).sn Y.it.2 (by decide)⟩⟩
theorem left8 (h : Aside (Pl8 A w0 X p W l u o own w)) : Calls Tryd.prog 11 #[ptr p] w fun e w' => e = .returned (.int .i64 l) ∧ Aside (Pl8 A w0 X p W l u o own w') := by
  refine (left_at h.it.recv.cnt).mono ?_
  rintro e w' ⟨rfl, k⟩
  exact ⟨rfl, Pl8.quiet h k⟩
theorem unread8 (h : Aside (Pl8 A w0 X p W l u o own w)) : Calls Tryd.prog 21 #[ptr p] w fun e w' => e = .returned (.int .i64 u) ∧ Aside (Pl8 A w0 X p W l u o own w') := by
  refine (unread_at h.it.recv.cnt).mono ?_
  rintro e w' ⟨rfl, k⟩
  exact ⟨rfl, Pl8.quiet h k⟩
theorem owed8 (h : Aside (Pl8 A w0 X p W l u o own w)) : Calls Tryd.prog 22 #[ptr p] w fun e w' => e = .returned (.int .i64 o) ∧ Aside (Pl8 A w0 X p W l u o own w') := by
  refine (owed_at h.it.recv.cnt).mono ?_
  rintro e w' ⟨rfl, k⟩
  exact ⟨rfl, Pl8.quiet h k⟩
/-- one box more -/
theorem Pl8.box (h : Aside (Pl8 A w0 X p W l u o own w)) (t : TypeId) (cs : List Value) : Aside (Pl8 A w0 ((w.heap.size, t, cs) :: X) p W l u o (give own w.heap.size 0) (w.alloc (.cells cs.toArray t))) := by
  have k : Keeps Nowhere w (w.alloc (.cells cs.toArray t)) := (Keeps.refl _ _).alloc _
  have s0 : Sn (fun _ => False) own w (give own w.heap.size 0) (w.alloc (.cells cs.toArray t)) := Sn.quiet k 0
  refine ⟨⟨h.it.recv.sn s0 (fun x => x), h.it.g.sn s0 (fun x => x), fun x hx => ?_⟩⟩
  rcases List.mem_cons.1 hx with rfl | hx
  · exact ⟨Cells.new w _ _, give_new (Nat.le_refl _)⟩
  · exact (h.it.ex x hx).sn s0 (fun x => x)
theorem Pl8.less (h : Aside (Pl8 A w0 X p W l u o own w)) : Aside (Pl8 A w0 [] p W l u o own w) := ⟨⟨h.it.recv, h.it.g, fun _ hx => by cases hx⟩⟩
theorem Pl8.op {b : Nat} {c : Bool} {n : Int} (h : Aside (Pl8 A w0 [(b, 37, [.bool c, .int .i64 n])] p W l u o own w)) : w.cell? ⟨b, 0, none⟩ = some (.bool c) ∧ w.cell? ⟨b, 1, none⟩ = some (.int .i64 n) :=
  ⟨by rw [(h.it.ex _ (List.mem_singleton.2 rfl)).1.cell]; rfl, by rw [(h.it.ex _ (List.mem_singleton.2 rfl)).1.cell]; rfl⟩
end

set_option maxRecDepth 20000 in
set_option maxHeartbeats 2000000 in
theorem fixed8 (hs : Sent8 A w) : Calls Tryd.prog 13 #[] w fun e w' => e = .returned (.bool true) ∧ Aside (Below w.heap.size w w') := by
  have G0 := Aside.mk (OnF.start hs)
  clear hs
  have N := Aside.mk (new8 G0 5 (by decide) (by decide))
  have T := Aside.mk (fun w => threshold_in 5 w (by decide) (by decide))
  go_enter Tryd.func13, Tryd.ntmps13
  go_upto_region 4 with (first | (go_at_call 9; refine N.it.mono ?_; rintro e w1 ⟨p, own1, rfl, P1⟩) | fail)
  go_upto_region 5 with (first | (go_at_call 17; refine (arrive8_ok P1 4 (by decide) (by decide)).mono ?_; rintro e w2 ⟨rfl, P2⟩) | fail)
  go_upto_region 6 with (first | (go_at_call 19; refine (read8_less P2 2 (by decide) (by decide) (by decide)).mono ?_; rintro e w3 ⟨rfl, P3⟩) | fail)
  go_upto_region 7 with (first | (go_at_call 19; refine (read8_grant P3 1 (by decide) (by decide) (by decide)).mono ?_; rintro e w4 ⟨rfl, P4⟩) | fail)
  go_wp2_with (first
    | (go_at_call 11; with_reducible refine (left8 P4).mono ?_; rintro e w5 ⟨rfl, P5⟩)
    | (go_at_call 21; with_reducible refine (unread8 P5).mono ?_; rintro e w6 ⟨rfl, P6⟩)
    | (go_at_call 22; with_reducible refine (owed8 P6).mono ?_; rintro e w7 ⟨rfl, P7⟩)
    | (go_at_call 12; refine (T.it _).mono ?_; rintro e w' ⟨rfl, rfl⟩)
    | fail)
  go_ret
  exact ⟨rfl, ⟨P7.it.g.g.bel⟩⟩

set_option maxRecDepth 20000 in
set_option maxHeartbeats 2000000 in
theorem grantNames_walk {A : Nat → Addr} (w : World) (hs : Sents 89 codeVars A w) :
    Calls Tryd.prog 3 #[] w fun e w' => e = .returned (.bool true) ∧ Below w.heap.size w w' := by
  have HS := Aside.mk hs
  have G0 := Aside.mk (OnF.start hs.s8)
  clear hs
  have N1 := Aside.mk (newG_no 0 w G0.it.sents (by decide))
  have T := Aside.mk (fun w => threshold_in 2147483647 w (by decide) (by decide))
  go_enter Tryd.func3, Tryd.ntmps3
  go_upto_region 2 with (first | (go_at_call 9; refine N1.it.mono ?_; rintro e w1 ⟨rfl, k1⟩) | fail)
  have G1 := Aside.mk (G0.it.quiet k1.it)
  have N2 := Aside.mk (newG_no 2147483648 w1 G1.it.sents (by decide))
  go_upto_region 3 with (first | (go_at_call 9; refine N2.it.mono ?_; rintro e w2 ⟨rfl, k2⟩) | fail)
  have G2 := Aside.mk (G1.it.quiet k2.it)
  have N3 := Aside.mk (new8 G2 2147483647 (by decide) (by decide))
  go_upto_region 4 with (first | (go_at_call 9; refine N3.it.mono ?_; rintro e w3 ⟨p, own3, rfl, P3⟩) | fail)
  have CD := Aside.mk (code_of (A := A) (HS.it.later P3.it.g.g.bel) (Coded.mk 1 2 (by decide) (by decide) rfl))
  go_wp2_with (first
    | (go_at_call 10; refine CD.it.mono ?_; rintro e w' ⟨rfl, rfl⟩)
    | (go_at_call 11; with_reducible refine (left8 P3).mono ?_; rintro e w5 ⟨rfl, P5⟩)
    | (go_at_call 12; refine (T.it _).mono ?_; rintro e w' ⟨rfl, rfl⟩)
    | fail)
  go_ret
  exact ⟨rfl, P5.it.g.g.bel⟩

set_option maxRecDepth 20000 in
set_option maxHeartbeats 2000000 in
theorem grantThreshold_walk {A : Nat → Addr} (n : Int) (w : World) (hs : Sents 89 codeVars A w) :
    Calls Tryd.prog 8 #[.int .i64 n] w fun e w' => e = .returned (.bool true) ∧ Below w.heap.size w w' := by
  have F := Aside.mk (fixed8 hs.s8)
  have HS := Aside.mk hs
  have G0 := Aside.mk (OnF.start hs.s8)
  clear hs
  by_cases hn : n < 1 ∨ 2147483647 < n
  · have T := Aside.mk (fun w => threshold_out n w hn)
    go_enter Tryd.func8, Tryd.ntmps8
    go_upto_region 4 with (first | (go_at_call 13; refine F.it.mono ?_; rintro e w1 ⟨rfl, b1⟩) | (go_at_call 12; refine (T.it _).mono ?_; rintro e w' ⟨rfl, rfl⟩) | fail)
    have G1 := Aside.mk (G0.it.quiet (Keeps.ofBelow (S := Nowhere) b1.it))
    have N := Aside.mk (newG_no n _ G1.it.sents hn)
    go_upto_region 5 with (first | (go_at_call 9; refine N.it.mono ?_; rintro e w2 ⟨rfl, k2⟩) | fail)
    have G2 := Aside.mk (G1.it.quiet k2.it)
    have CD := Aside.mk (code_of (A := A) (HS.it.later G2.it.g.bel) (Coded.mk 1 2 (by decide) (by decide) rfl))
    go_wp2_with (first | (go_at_call 10; refine CD.it.mono ?_; rintro e w' ⟨rfl, rfl⟩) | fail)
    go_ret
    exact ⟨rfl, G2.it.g.bel⟩
  · have hn1 : 1 ≤ n := by omega
    have hn2 : n ≤ 2147483647 := by omega
    have T := Aside.mk (fun w => threshold_in n w hn1 hn2)
    obtain ⟨t, ht, ht1⟩ : ∃ t, t = (n + 1) / 2 ∧ 1 ≤ t := ⟨_, rfl, by omega⟩
    rw [← ht] at T
    have ht2 : 2 * t = n ∨ 2 * t = n + 1 := by omega
    clear ht
    go_enter Tryd.func8, Tryd.ntmps8
    go_upto_region 4 with (first | (go_at_call 13; refine F.it.mono ?_; rintro e w1 ⟨rfl, b1⟩) | (go_at_call 12; refine (T.it _).mono ?_; rintro e w' ⟨rfl, rfl⟩) | fail)
    have G1 := Aside.mk (G0.it.quiet (Keeps.ofBelow (S := Nowhere) b1.it))
    have N := Aside.mk (new8 G1 n hn1 hn2)
    go_upto_region 5 with (first | (go_at_call 9; refine N.it.mono ?_; rintro e w2 ⟨p, own2, rfl, P2⟩) | fail)
    rcases ht2 with ht2 | ht2
    · go_wp2_with (first | (go_at_call 11; with_reducible refine (left8 P2).mono ?_; rintro e w5 ⟨rfl, P5⟩) | fail)
      go_ret
      exact ⟨rfl, P5.it.g.g.bel⟩
    · have ht3 : ¬ 2 * t = n := by omega
      go_wp2_with (first | (go_at_call 11; with_reducible refine (left8 P2).mono ?_; rintro e w5 ⟨rfl, P5⟩) | fail)
      go_ret
      exact ⟨rfl, P5.it.g.g.bel⟩
end
end Go.Proofs.YtkkfjbjlggkhiaaDoor
