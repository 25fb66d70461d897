/-
  GrantPair, walked: a Send beside a Recv.
-/
import Derived.Test.YtkkfjbjlggkhiaaDoorCredA
import Derived.Test.YtkkfjbjlggkhiaaDoorGrantSplit
namespace Go.Proofs.YtkkfjbjlggkhiaaDoor
open Go.RowKit

def sixVars : List Nat := [1, 0, 4, 3, 2, 5]
def six (i : Nat) : Nat := if i = 0 then 0 else if i = 1 then 1 else if i = 4 then 3 else 4
section
variable {own own' : Nat → Nat} {i : Nat} {w w' w0 : World} {p q : Nat} {W c s l u o : Int} {I : Nat → Prop} {A : Nat → Addr}
theorem Sents.six (h : Sents 89 sixVars A w) : Sent8 (fun i => A (six i)) w :=
  ⟨h.cell 0 1 rfl, h.cell 1 0 rfl, h.cell 3 3 rfl, h.cell 4 2 rfl⟩
theorem SendO.put2 (h : SendO own i w p W c s) (c' s' : Int) (h1 : 0 ≤ c') (h2 : c' ≤ W) (h3 : 0 ≤ s') (h4 : s' ≤ 18446744073709551615) :
    SendO own i ((w.setCell ⟨p, 1, none⟩ (.int .u32 c')).setCell ⟨p, 2, none⟩ (.int .u64 s')) p W c' s' ∧ Sn (fun k => k = i) own w own ((w.setCell ⟨p, 1, none⟩ (.int .u32 c')).setCell ⟨p, 2, none⟩ (.int .u64 s')) :=
  ⟨⟨⟨(h.at_.1.setCell 1 (.int .u32 c')).setCell 2 (.int .u64 s'), h.at_.2⟩, h.w1, h.w2, h1, h2, h3, h4⟩, fun _ _ => rfl, ((Keeps.refl _ _).setCell _ _ (fun _ => h.at_.2)).setCell _ _ (fun _ => h.at_.2)⟩
theorem SendO.put1 (h : SendO own i w p W c s) (c' : Int) (h1 : 0 ≤ c') (h2 : c' ≤ W) :
    SendO own i (w.setCell ⟨p, 1, none⟩ (.int .u32 c')) p W c' s ∧ Sn (fun k => k = i) own w own (w.setCell ⟨p, 1, none⟩ (.int .u32 c')) :=
  ⟨⟨⟨h.at_.1.setCell 1 (.int .u32 c'), h.at_.2⟩, h.w1, h.w2, h1, h2, h.s1, h.s2⟩, fun _ _ => rfl, (Keeps.refl _ _).setCell _ _ (fun _ => h.at_.2)⟩
theorem spend_okc {a : Addr} (h : SendO own i w p W c s) (n : Int) (hc : w.cell? ⟨0, 0, none⟩ = some (.iface 89 (.pointer (some a)))) (h0 : 0 ≤ n) (h1 : n ≤ c) :
    Calls Tryd.prog 25 #[ptr p, .int .i64 n] w fun e w' => ∃ s', e = .returned .nilIface ∧ Aside (SendO own i w' p W (c - n) s' ∧ Sn (fun k => k = i) own w own w') := by
  have hw1 := h.w1
  have hw2 := h.w2
  have hc2 := h.c2
  have c1 := h.cell1
  have c2 := h.cell2
  have f1 := h.at_.1.frozen 1
  have f2 := h.at_.1.frozen 2
  have s1 := h.s1
  have s2 := h.s2
  have L := Aside.mk (fun w => less_ok c n w (by omega) h0 h1)
  have H := Aside.mk h
  clear h
  go_enter Tryd.func25, Tryd.ntmps25
  go_wp2_with (first | (go_at_call 40; refine (L.it _).mono ?_; rintro e w' ⟨rfl, rfl⟩) | (go_at_call 29; refine (is_nil a _).mono ?_; rintro e w' ⟨rfl, rfl⟩) | fail)
  go_ret
  have b : 0 ≤ IntKind.u64.wrap (s + n) ∧ IntKind.u64.wrap (s + n) ≤ 18446744073709551615 := by rw [IntKind.wrap_u64]; omega
  exact ⟨_, rfl, ⟨H.it.put2 _ _ (by omega) (by omega) b.1 b.2⟩⟩
theorem grant_okc {a : Addr} (h : SendO own i w p W c s) (d : Int) (hc : w.cell? ⟨4, 0, none⟩ = some (.iface 89 (.pointer (some a)))) (h0 : 0 ≤ d) (h1 : c + d ≤ W) :
    Calls Tryd.prog 26 #[ptr p, .int .u32 d] w fun e w' => e = .returned .nilIface ∧ Aside (SendO own i w' p W (c + d) s ∧ Sn (fun k => k = i) own w own w') := by
  have hw1 := h.w1
  have hw2 := h.w2
  have hc1 := h.c1
  have hc2 := h.c2
  have c0 := h.cell0
  have c1 := h.cell1
  have f1 := h.at_.1.frozen 1
  have h2 : ¬ W < c + d := by omega
  have L := Aside.mk (fun w => add_ok c d w hc1 h0 (by omega))
  have H := Aside.mk h
  clear h
  go_enter Tryd.func26, Tryd.ntmps26
  go_wp2_with (first | (go_at_call 41; refine (L.it _).mono ?_; rintro e w' ⟨rfl, rfl⟩) | (go_at_call 29; refine (is_nil a _).mono ?_; rintro e w' ⟨rfl, rfl⟩) | fail)
  go_ret
  exact ⟨rfl, ⟨H.it.put1 _ (by omega) (by omega)⟩⟩
theorem newC_noc {a : Addr} (n : Int) (w : World) (hc : w.cell? ⟨0, 0, none⟩ = some (.iface 89 (.pointer (some a)))) (h : n < 1 ∨ 2147483647 < n) :
    Calls Tryd.prog 23 #[.int .i64 n] w fun e w' => e = .returned (.tuple #[.pointer none, .iface 89 (.pointer (some a))]) ∧ Aside (Keeps Nowhere w w') := by
  rcases h with h | h
  · go_enter Tryd.func23, Tryd.ntmps23
    go_wp2
    go_quiet (fail)
    go_wp2
    go_ret2
    exact ⟨rfl, ⟨(Keeps.refl _ _).drewN _⟩⟩
  · have h0' : ¬ n < 1 := by omega
    go_enter Tryd.func23, Tryd.ntmps23
    go_wp2
    go_quiet (fail)
    go_wp2
    go_ret2
    exact ⟨rfl, ⟨(Keeps.refl _ _).drewN _⟩⟩
/-- a Send of 2's and a Recv of 1's, of one window; the credit is Left -/
structure Pr8 (A : Nat → Addr) (w0 : World) (p q : Nat) (W c l u o : Int) (own : Nat → Nat) (w : World) : Prop where
  recv : RecvO own 1 w p W l u o
  send : ∃ s, SendO own 2 w q W c s
  g : OnF A w0 own w
  ov : ∃ a, w0.cell? ⟨4, 0, none⟩ = some (.iface 89 (.pointer (some a)))
theorem Pr8.quiet (h : Aside (Pr8 A w0 p q W c l u o own w)) (k : Aside (Keeps Nowhere w w')) : Aside (Pr8 A w0 p q W c l u o own w') := by
  obtain ⟨s, hs⟩ := h.it.send
  exact ⟨⟨h.it.recv.quiet k.it, ⟨s, hs.quiet k.it⟩, h.it.g.quiet k.it, h.it.ov⟩⟩
theorem pr_have (h : Aside (Pr8 A w0 p q W c l u o own w)) : Calls Tryd.prog 24 #[ptr q] w fun e w' => e = .returned (.int .u32 c) ∧ w' = w := by
  obtain ⟨s, hs⟩ := h.it.send
  exact haveC hs
theorem pr_left (h : Aside (Pr8 A w0 p q W c l u o own w)) : Calls Tryd.prog 11 #[ptr p] w fun e w' => e = .returned (.int .i64 l) ∧ Aside (Pr8 A w0 p q W c l u o own w') :=
  (left_at h.it.recv.cnt).mono (by rintro e w' ⟨rfl, k⟩; exact ⟨rfl, Pr8.quiet h k⟩)
theorem pr_unread (h : Aside (Pr8 A w0 p q W c l u o own w)) : Calls Tryd.prog 21 #[ptr p] w fun e w' => e = .returned (.int .i64 u) ∧ Aside (Pr8 A w0 p q W c l u o own w') :=
  (unread_at h.it.recv.cnt).mono (by rintro e w' ⟨rfl, k⟩; exact ⟨rfl, Pr8.quiet h k⟩)
theorem pr_arrive (h : Aside (Pr8 A w0 p q W c l u o own w)) (n : Int) (h0 : 0 ≤ n) (h1 : n ≤ l) : Calls Tryd.prog 17 #[ptr p, .int .i64 n] w fun e w' => e = .returned .nilIface ∧ Aside (Pr8 A w0 p q W c (l - n) (u + n) o own w') := by
  obtain ⟨s, hs⟩ := h.it.send
  refine (arrive_ok (A := A) h.it.recv n h0 h1).mono ?_
  rintro e w' ⟨v, rfl, hv, Y⟩
  have e := hv.out.zero
  subst e
  exact ⟨rfl, ⟨Y.it.1, ⟨s, hs.sn Y.it.2 (by decide)⟩, h.it.g.sn Y.it.2 (by decide), h.it.ov⟩⟩
theorem pr_read (h : Aside (Pr8 A w0 p q W c l u o own w)) (n : Int) (h0 : 0 ≤ n) (h1 : n ≤ u) : Calls Tryd.prog 19 #[ptr p, .int .i64 n] w fun e w' => ∃ g, (0 ≤ g ∧ g ≤ o + n ∧ g ≤ 2147483647) ∧ e = .returned (.tuple #[.int .u32 g, .nilIface]) ∧ Aside (Pr8 A w0 p q W c (l + g) (u - n) (o + n - g) own w') := by
  obtain ⟨s, hs⟩ := h.it.send
  refine (al_read (w1 := w) ⟨⟨h.it.recv, h.it.g, Sn.refl _ _ _, by decide⟩⟩ n h0 h1).mono ?_
  rintro e w' ⟨g, hg, rfl, Y⟩
  exact ⟨g, hg, rfl, ⟨Y.it.recv, ⟨s, hs.sn Y.it.sn (by decide)⟩, Y.it.g, h.it.ov⟩⟩
theorem pr_spend (h : Aside (Pr8 A w0 p q W c l u o own w)) (n : Int) (h0 : 0 ≤ n) (h1 : n ≤ c) : Calls Tryd.prog 25 #[ptr q, .int .i64 n] w fun e w' => e = .returned .nilIface ∧ Aside (Pr8 A w0 p q W (c - n) l u o own w') := by
  obtain ⟨s, hs⟩ := h.it.send
  refine (spend_okc hs n h.it.g.sents.range h0 h1).mono ?_
  rintro e w' ⟨s', rfl, Y⟩
  exact ⟨rfl, ⟨h.it.recv.sn Y.it.2 (by decide), ⟨s', Y.it.1⟩, h.it.g.sn Y.it.2 (by decide), h.it.ov⟩⟩
theorem pr_grant (h : Aside (Pr8 A w0 p q W c l u o own w)) (n : Int) (h0 : 0 ≤ n) (h1 : c + n ≤ W) : Calls Tryd.prog 26 #[ptr q, .int .u32 n] w fun e w' => e = .returned .nilIface ∧ Aside (Pr8 A w0 p q W (c + n) l u o own w') := by
  obtain ⟨s, hs⟩ := h.it.send
  obtain ⟨a, ha⟩ := h.it.ov
  refine (grant_okc hs n (h.it.g.g.cell rfl ha) h0 h1).mono ?_
  rintro e w' ⟨rfl, Y⟩
  exact ⟨rfl, ⟨h.it.recv.sn Y.it.2 (by decide), ⟨s, Y.it.1⟩, h.it.g.sn Y.it.2 (by decide), h.it.ov⟩⟩
theorem Pr8.facts (h : Aside (Pr8 A w0 p q W c l u o own w)) : (0 ≤ l ∧ 0 ≤ u ∧ 0 ≤ o) ∧ l + u + o = W ∧ 1 ≤ W ∧ W ≤ 2147483647 ∧ o < (W + 1) / 2 := ⟨⟨h.it.recv.cnt.l1, h.it.recv.cnt.u1, h.it.recv.cnt.o1⟩, h.it.recv.cnt.sum, h.it.recv.cnt.w1, h.it.recv.cnt.w2, h.it.recv.ow⟩
end
end Go.Proofs.YtkkfjbjlggkhiaaDoor
