/-
  GrantAnswers' world: a Recv (or nil), the document's in a box, the op and the new in boxes; tells
-/
import Derived.Test.YtkkfjbjlggkhiaaDoorRef08
namespace Go.Proofs.YtkkfjbjlggkhiaaDoor
open Go.RowKit

section
variable {own own' : Nat → Nat} {w w' w0 : World} {rv : Value} {p rb : Nat} {W C R T l u o : Int} {I : Nat → Prop} {A : Nat → Addr} {X : List (Nat × TypeId × List Value)}

def arVE (W l n : Int) : Int := if W = 0 then 1 else arE l n
def arVL (W l n : Int) : Int := if W = 0 then l else arL l n
def arVU (W l u n : Int) : Int := if W = 0 then u else arU l u n
def rdVE (W u n : Int) : Int := if W = 0 then 1 else rdE u n
def rdVG (W u o n : Int) : Int := if W = 0 then 0 else rdG W u o n
def rdVL (W l u o n : Int) : Int := if W = 0 then l else l + rdG W u o n
def rdVU (W u n : Int) : Int := if W = 0 then u else rdU u n
def rdVO (W u o n : Int) : Int := if W = 0 then o else rdO W u o n

/-- a Recv of 1's, or nil (the window 0) -/
def RecvV (own : Nat → Nat) (w : World) (rv : Value) (W l u o : Int) : Prop :=
  (∃ p, rv = ptr p ∧ RecvO own 1 w p W l u o) ∨ (rv = .pointer none ∧ W = 0 ∧ l = 0 ∧ u = 0 ∧ o = 0)
theorem RecvV.sn (h : RecvV own w rv W l u o) (k : Sn I own w own' w') (hi : ¬ I 1) : RecvV own' w' rv W l u o := by
  rcases h with ⟨p, e, h⟩ | h
  · exact .inl ⟨p, e, h.sn k hi⟩
  · exact .inr h
theorem RecvV.quiet (h : RecvV own w rv W l u o) (k : Keeps Nowhere w w') : RecvV own w' rv W l u o := by
  rcases h with ⟨p, e, h⟩ | h
  · exact .inl ⟨p, e, h.quiet k⟩
  · exact .inr h
theorem leftV (h : RecvV own w rv W l u o) : Calls Tryd.prog 11 #[rv] w fun e w' => e = .returned (.int .i64 l) ∧ Aside (Keeps Nowhere w w') := by
  rcases h with ⟨p, rfl, h⟩ | ⟨rfl, _, rfl, _, _⟩
  · exact left_at h.cnt
  · exact left_nil w
theorem unreadV (h : RecvV own w rv W l u o) : Calls Tryd.prog 21 #[rv] w fun e w' => e = .returned (.int .i64 u) ∧ Aside (Keeps Nowhere w w') := by
  rcases h with ⟨p, rfl, h⟩ | ⟨rfl, _, _, rfl, _⟩
  · exact unread_at h.cnt
  · exact unread_nil w
theorem owedV (h : RecvV own w rv W l u o) : Calls Tryd.prog 22 #[rv] w fun e w' => e = .returned (.int .i64 o) ∧ Aside (Keeps Nowhere w w') := by
  rcases h with ⟨p, rfl, h⟩ | ⟨rfl, _, _, _, rfl⟩
  · exact owed_at h.cnt
  · exact owed_nil w
theorem RecvV.pos {p : Nat} (h : RecvO own 1 w p W l u o) : ¬ W = 0 := by have := h.cnt.w1; omega
theorem arriveV (h : RecvV own w rv W l u o) (n : Int) (hs : Sent8 A w) : Calls Tryd.prog 17 #[rv, .int .i64 n] w fun e w' => ∃ v, e = .returned v ∧ Hid (Coded A v (arVE W l n)) ∧ Aside (RecvV own w' rv W (arVL W l n) (arVU W l u n) o ∧ Sn (fun k => k = 1) own w own w') := by
  unfold arVE arVL arVU
  rcases h with ⟨p, rfl, h⟩ | ⟨rfl, rfl, rfl, rfl, rfl⟩
  · simp only [if_neg (RecvV.pos h)]
    refine (arrive_any h n hs).mono ?_
    rintro e w' ⟨v, rfl, hv, Y⟩
    exact ⟨v, rfl, hv, ⟨.inl ⟨p, rfl, Y.it.1⟩, Y.it.2⟩⟩
  · simp only [if_true]
    refine (arrive_nil n hs).mono ?_
    rintro e w' ⟨rfl, rfl⟩
    exact ⟨_, rfl, Coded.mk 0 1 (by decide) (by decide) rfl, ⟨.inr ⟨rfl, rfl, rfl, rfl, rfl⟩, Sn.refl _ _ _⟩⟩
theorem readV (h : RecvV own w rv W l u o) (n : Int) (hs : Sent8 A w) : Calls Tryd.prog 19 #[rv, .int .i64 n] w fun e w' => ∃ v, e = .returned (.tuple #[.int .u32 (rdVG W u o n), v]) ∧ Hid (Coded A v (rdVE W u n)) ∧ Aside (RecvV own w' rv W (rdVL W l u o n) (rdVU W u n) (rdVO W u o n) ∧ Sn (fun k => k = 1) own w own w') := by
  unfold rdVG rdVE rdVL rdVU rdVO
  rcases h with ⟨p, rfl, h⟩ | ⟨rfl, rfl, rfl, rfl, rfl⟩
  · simp only [if_neg (RecvV.pos h)]
    refine (read_any h n hs).mono ?_
    rintro e w' ⟨v, rfl, hv, Y⟩
    exact ⟨v, rfl, hv, ⟨.inl ⟨p, rfl, Y.it.1⟩, Y.it.2⟩⟩
  · simp only [if_true]
    refine (read_nil n hs).mono ?_
    rintro e w' ⟨rfl, k⟩
    exact ⟨_, rfl, Coded.mk 0 1 (by decide) (by decide) rfl, ⟨.inr ⟨rfl, rfl, rfl, rfl, rfl⟩, Sn.same k.it⟩⟩

/-- the document's counts, at a window or at nil -/
structure St8 (W C R T l u o : Int) : Prop where
  cnt : Cnt8 W C R T l u o
  cs : (W = 0 ∧ C = 0 ∧ R = 0 ∧ T = 0 ∧ l = 0 ∧ u = 0 ∧ o = 0) ∨ (1 ≤ W ∧ W ≤ 2147483647 ∧ 0 ≤ l ∧ 0 ≤ u ∧ 0 ≤ o ∧ l + u + o = W)
theorem refArriveV (h : St8 W C R T l u o) (n : Int) (w : World) :
    Calls Tryd.prog 16 #[ref8 W C R T, .int .i64 n] w fun e w' => ∃ C', e = .returned (.tuple #[ref8 W C' R T, .int .i64 (arVE W l n)]) ∧ Aside (St8 W C' R T (arVL W l n) (arVU W l u n) o ∧ Keeps Nowhere w w') := by
  unfold arVE arVL arVU
  rcases h.cs with ⟨rfl, rfl, rfl, rfl, rfl, rfl, rfl⟩ | ⟨h1, h2, h3, h4, h5, h6⟩
  · simp only [if_true]
    refine (ref8ArriveNil n w).mono ?_
    rintro e w' ⟨rfl, k⟩
    exact ⟨0, rfl, ⟨h, k.it⟩⟩
  · simp only [if_neg (show ¬ W = 0 by omega)]
    refine (ref8Arrive n w h.cnt h1 h3 h4 (by omega)).mono ?_
    rintro e w' ⟨C', rfl, Y⟩
    refine ⟨C', rfl, ⟨⟨Y.it.1, .inr ⟨h1, h2, ?_, ?_, h5, ?_⟩⟩, Y.it.2⟩⟩ <;> simp only [arL, arU] <;> repeat' split
    all_goals omega
theorem refReadV (h : St8 W C R T l u o) (n : Int) (w : World) :
    Calls Tryd.prog 18 #[ref8 W C R T, .int .i64 n] w fun e w' => ∃ R' T', e = .returned (.tuple #[ref8 W C R' T', .int .i64 (rdVG W u o n), .int .i64 (rdVE W u n)]) ∧ Aside (St8 W C R' T' (rdVL W l u o n) (rdVU W u n) (rdVO W u o n) ∧ Keeps Nowhere w w') := by
  unfold rdVG rdVE rdVL rdVU rdVO
  rcases h.cs with ⟨rfl, rfl, rfl, rfl, rfl, rfl, rfl⟩ | ⟨h1, h2, h3, h4, h5, h6⟩
  · simp only [if_true]
    refine (ref8ReadNil n w).mono ?_
    rintro e w' ⟨rfl, k⟩
    exact ⟨0, 0, rfl, ⟨h, k.it⟩⟩
  · simp only [if_neg (show ¬ W = 0 by omega)]
    refine (ref8Read n w h.cnt h1 h2 h3 h4 h5 h6).mono ?_
    rintro e w' ⟨R', T', rfl, Y⟩
    refine ⟨R', T', rfl, ⟨⟨Y.it.1, .inr ⟨h1, h2, ?_, ?_, ?_, ?_⟩⟩, Y.it.2⟩⟩ <;> simp only [rdG, rdU, rdO] <;> repeat' split
    all_goals omega

/-- within tells -/
structure Tl8 (own : Nat → Nat) (w0 : World) (b : Nat) (rv : Value) (W C R T l u o : Int) (w : World) : Prop where
  recv : RecvV own w rv W l u o
  box : Cells w b 33 [.int .i64 W, .int .i64 C, .int .i64 R, .int .i64 T]
  k : Keeps Nowhere w0 w
  st : Cnt8 W C R T l u o
theorem Tl8.quiet {b : Nat} (h : Aside (Tl8 own w0 b rv W C R T l u o w)) (k : Keeps Nowhere w w') : Aside (Tl8 own w0 b rv W C R T l u o w') := ⟨⟨h.it.recv.quiet k, h.it.box.later k (fun x => x), h.it.k.trans k, h.it.st⟩⟩
theorem Tl8.cells {b : Nat} (h : Aside (Tl8 own w0 b rv W C R T l u o w)) : w.cell? ⟨b, 0, none⟩ = some (.int .i64 W) ∧ w.cell? ⟨b, 1, none⟩ = some (.int .i64 C) ∧ w.cell? ⟨b, 2, none⟩ = some (.int .i64 R) ∧ w.cell? ⟨b, 3, none⟩ = some (.int .i64 T) :=
  ⟨by rw [h.it.box.cell]; rfl, by rw [h.it.box.cell]; rfl, by rw [h.it.box.cell]; rfl, by rw [h.it.box.cell]; rfl⟩
theorem tl_left {b : Nat} (h : Aside (Tl8 own w0 b rv W C R T l u o w)) : Calls Tryd.prog 11 #[rv] w fun e w' => e = .returned (.int .i64 l) ∧ Aside (Tl8 own w0 b rv W C R T l u o w') :=
  (leftV h.it.recv).mono (by rintro e w' ⟨rfl, k⟩; exact ⟨rfl, Tl8.quiet h k.it⟩)
theorem tl_unread {b : Nat} (h : Aside (Tl8 own w0 b rv W C R T l u o w)) : Calls Tryd.prog 21 #[rv] w fun e w' => e = .returned (.int .i64 u) ∧ Aside (Tl8 own w0 b rv W C R T l u o w') :=
  (unreadV h.it.recv).mono (by rintro e w' ⟨rfl, k⟩; exact ⟨rfl, Tl8.quiet h k.it⟩)
theorem tl_owed {b : Nat} (h : Aside (Tl8 own w0 b rv W C R T l u o w)) : Calls Tryd.prog 22 #[rv] w fun e w' => e = .returned (.int .i64 o) ∧ Aside (Tl8 own w0 b rv W C R T l u o w') :=
  (owedV h.it.recv).mono (by rintro e w' ⟨rfl, k⟩; exact ⟨rfl, Tl8.quiet h k.it⟩)
theorem tl_rleft {b : Nat} (h : Aside (Tl8 own w0 b rv W C R T l u o w)) : Calls Tryd.prog 32 #[ref8 W C R T] w fun e w' => e = .returned (.int .i64 l) ∧ Aside (Tl8 own w0 b rv W C R T l u o w') :=
  (ref8Left w h.it.st).mono (by rintro e w' ⟨rfl, rfl⟩; exact ⟨rfl, Tl8.quiet h ((Keeps.refl _ _).alloc _)⟩)
theorem tl_runread {b : Nat} (h : Aside (Tl8 own w0 b rv W C R T l u o w)) : Calls Tryd.prog 34 #[ref8 W C R T] w fun e w' => e = .returned (.int .i64 u) ∧ Aside (Tl8 own w0 b rv W C R T l u o w') :=
  (ref8Unread w h.it.st).mono (by rintro e w' ⟨rfl, rfl⟩; exact ⟨rfl, Tl8.quiet h ((Keeps.refl _ _).alloc _)⟩)
theorem tl_rowed {b : Nat} (h : Aside (Tl8 own w0 b rv W C R T l u o w)) : Calls Tryd.prog 35 #[ref8 W C R T] w fun e w' => e = .returned (.int .i64 o) ∧ Aside (Tl8 own w0 b rv W C R T l u o w') :=
  (ref8Owed w h.it.st).mono (by rintro e w' ⟨rfl, rfl⟩; exact ⟨rfl, Tl8.quiet h ((Keeps.refl _ _).alloc _)⟩)
set_option maxRecDepth 20000 in
set_option maxHeartbeats 4000000 in
theorem tells8 (h : RecvV own w rv W l u o) (hc : Cnt8 W C R T l u o) : Calls Tryd.prog 20 #[rv, ref8 W C R T] w fun e w' => e = .returned (.bool true) ∧ Aside (Keeps Nowhere w w') := by
  obtain ⟨w1, hw1⟩ : ∃ w1, w1 = w.alloc (.cells #[.int .i64 W, .int .i64 C, .int .i64 R, .int .i64 T] 33) := ⟨_, rfl⟩
  have K : Keeps Nowhere w w1 := by rw [hw1]; exact (Keeps.refl _ _).alloc _
  have B : Cells w1 w.heap.size 33 [.int .i64 W, .int .i64 C, .int .i64 R, .int .i64 T] := by rw [hw1]; exact Cells.new w _ _
  have T1 : Aside (Tl8 own w w.heap.size rv W C R T l u o w1) := ⟨⟨h.quiet K, B, K, hc⟩⟩
  clear h hc K B
  go_enter Tryd.func20, Tryd.ntmps20
  go_upto_region 1 with fail
  rw [← hw1]
  obtain ⟨b, hb⟩ : ∃ b, b = w.heap.size := ⟨_, rfl⟩
  rw [← hb] at T1 ⊢
  clear hw1 hb
  obtain ⟨c0, c1, c2, c3⟩ := Tl8.cells T1
  have T1d : Aside (Tl8 own w b rv W C R T l u o w1.drew) := Tl8.quiet T1 (Keeps.refl _ _).drew
  go_region_held_law (fun w' => w'.cell? ⟨b, 0, none⟩ = some (.int .i64 W) ∧ w'.cell? ⟨b, 1, none⟩ = some (.int .i64 C) ∧ w'.cell? ⟨b, 2, none⟩ = some (.int .i64 R) ∧ w'.cell? ⟨b, 3, none⟩ = some (.int .i64 T)) (exact Tl8.cells (own := own) (w0 := w) (rv := rv) (l := l) (u := u) (o := o) (by with_reducible assumption)) (first
    | (go_at_call 11; with_reducible refine (tl_left (by with_reducible assumption)).mono ?_; rintro e w5 ⟨rfl, P5⟩)
    | (go_at_call 21; with_reducible refine (tl_unread (by with_reducible assumption)).mono ?_; rintro e w5 ⟨rfl, P5⟩)
    | (go_at_call 22; with_reducible refine (tl_owed (by with_reducible assumption)).mono ?_; rintro e w5 ⟨rfl, P5⟩)
    | (go_at_call 32; with_reducible refine (tl_rleft (by with_reducible assumption)).mono ?_; rintro e w5 ⟨rfl, P5⟩)
    | (go_at_call 34; with_reducible refine (tl_runread (by with_reducible assumption)).mono ?_; rintro e w5 ⟨rfl, P5⟩)
    | (go_at_call 35; with_reducible refine (tl_rowed (by with_reducible assumption)).mono ?_; rintro e w5 ⟨rfl, P5⟩)
    | fail)
  all_goals (go_wp2; go_ret; exact ⟨rfl, ⟨P5.it.k⟩⟩)
end
end Go.Proofs.YtkkfjbjlggkhiaaDoor
