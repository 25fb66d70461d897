/-
  package feed: every call, of a decoder that lives, of a dead one, of none; Code and Stream of what it fails with.
-/
import Derived.Test.YtjhjhmhhnifgmaaDoorFeedG
namespace Go.Proofs.YtjhjhmhhnifgmaaDoor
open Go.RowKit

/-- what Feed makes of b -/
def feedO (most : Int) (hs : List Int) (dead : Option (List Int)) (b : List Int) : Out :=
  match dead with
  | none => prs most (hs ++ b)
  | some h => ⟨[], [], some h⟩
def heldS (hs : List Int) (dead : Option (List Int)) : Nat := match dead with | none => hs.length | some _ => 0
def wantsS (hs : List Int) (dead : Option (List Int)) : Nat := match dead with | none => wantsP szN hs | some _ => 0
def codeS (most : Int) (dead : Option (List Int)) : Int := match dead with | none => 0 | some h => 1000 + chkH most h
def strmS (dead : Option (List Int)) : Int := match dead with | none => 0 | some h => dS h

section
variable {A : Nat → Addr} {w0 : World} {own : Nat → Nat} {i j : Nat} {w w' : World} {p : Nat} {most : Int} {hs : List Int} {dead : Option (List Int)}
theorem new_s (G : Gr A w0 own w) (h1 : 1 ≤ most) (h2 : most ≤ 65536) :
    Calls Tryd.prog 5 #[.int .i64 most] w fun e w' => ∃ p own', e = .returned (.tuple #[dPtr p, .nilIface]) ∧ Aside (Gr A w0 own' w' ∧ DecS A own' i j w' p most [] none ∧ (∀ k, k < w.heap.size → own' k = own k) ∧ Keeps Nowhere w w') := by
  refine (new_ok most w h1 h2).mono ?_
  rintro e w' ⟨rfl, rfl⟩
  have K : Keeps Nowhere w (w.alloc (.cells (decL most (.slice none 0 0) 0 0 0 0 0 (.pointer none)).toArray 55)) := (Keeps.refl _ _).alloc _
  refine ⟨w.heap.size, give own w.heap.size i, rfl, ⟨(G.ext (fun k hk => give_old hk)).quiet K, ⟨⟨[], ⟨give_new (Nat.le_refl _), ⟨.slice none 0 0, ⟨?_, World.ownsRow_nil _ _ _ _⟩, fun k hk => by simp [Value.ownBlock] at hk⟩, fun n hn => by simp at hn, fun n hn => by simp at hn⟩, fun h => by simp at h⟩, Live.nil⟩, fun k hk => give_old hk, K⟩⟩
  exact Cells.new w 55 _
theorem feed_nil (B : Base A w) (x : Value) :
    Calls Tryd.prog 8 #[.pointer none, x] w fun e w' => e = .returned (.tuple #[.slice none 0 0, .iface 116 (.pointer (some (A 0)))]) ∧ Keeps Nowhere w w' := by
  have hc := B.s.cell 0 1 rfl
  clear B
  go_enter Tryd.func8, Tryd.ntmps8
  go_wp2
  go_step3
  go_wp2_with fail
  go_quiet (fail)
  go_wp2
  try rw [Exit.noGoto_ret]
  go_ret2
  exact ⟨rfl, drewN_keeps _ _⟩
theorem feed_dead {vb : Nat} {h : List Int} (D : DeadV A own i j w p most h vb) (x : Value) :
    Calls Tryd.prog 8 #[dPtr p, x] w fun e w' => e = .returned (.tuple #[.slice none 0 0, vio vb]) ∧ Keeps Nowhere w w' := by
  obtain ⟨g, c⟩ := D.c
  have c7 := c.cell 7
  simp at c7
  have E := Aside.mk (err_dead c)
  clear c D
  go_enter Tryd.func8, Tryd.ntmps8
  go_wp2
  go_step3
  go_wp2_with (go_at_call 17; refine E.it.mono ?_; rintro e w5 ⟨rfl, n5, rfl⟩)
  try rw [Exit.noGoto_ret]
  go_ret2
  exact ⟨rfl, drewN_keeps _ _⟩
theorem DeadV.quiet {vb : Nat} {h : List Int} (D : DeadV A own i j w p most h vb) (hk : Keeps Nowhere w w') : DeadV A own i j w' p most h vb := by
  obtain ⟨a, ⟨g, c⟩, v⟩ := D
  exact ⟨a, ⟨g, c.later hk (fun x => x)⟩, v.quiet hk⟩
theorem DecS.quiet (D : DecS A own i j w p most hs dead) (hk : Keeps Nowhere w w') : DecS A own i j w' p most hs dead := by
  cases dead with
  | none => exact DecL.quiet D hk
  | some h => obtain ⟨vb, d⟩ := D; exact ⟨vb, d.quiet hk⟩
theorem feed_s (hi : i ≠ 0) (hij : j ≠ i) (G : Gr A w0 own w) (D : DecS A own i j w p most hs dead) (x : Value) (b : List Int) (R : RdS (fun k => own k = i) w x b) (hb : AreBytes b) (hN : hs.length + b.length ≤ 1099511627776) :
    Calls Tryd.prog 8 #[dPtr p, x] w fun e w' => ∃ fv ev own', e = .returned (.tuple #[fv, ev]) ∧ Aside (Fed A w0 own i j w p most (feedO most hs dead b) own' w' fv ev) := by
  cases dead with
  | none =>
    obtain ⟨q, c, rfl, _⟩ := R.shape
    exact feed_live hi hij G D _ _ _ b R hb hN
  | some h =>
    obtain ⟨vb, d⟩ := D
    refine (feed_dead d x).mono ?_
    rintro e w' ⟨rfl, hk⟩
    exact ⟨_, _, own, rfl, ⟨G.quiet hk, fun _ _ => rfl, Keeps.any hk, FramesO.none _ _ _, ⟨FramesD.none _ _ _ hk.size, fun k hk => by simp [Value.ownBlock] at hk⟩, ⟨vb, d.quiet hk⟩, ⟨vb, rfl, d.v.quiet hk⟩⟩⟩
theorem held_s (D : DecS A own i j w p most hs dead) : Calls Tryd.prog 10 #[dPtr p] w fun e w' => e = .returned (.int .i64 (heldS hs dead)) ∧ Keeps Nowhere w w' := by
  cases dead with
  | none =>
    obtain ⟨g, ⟨_, ⟨hv, d, _⟩, _, _⟩, _⟩ := DecL.d D
    exact (held_any d).mono (by rintro e w' ⟨rfl, n, rfl⟩; exact ⟨rfl, drewN_keeps _ _⟩)
  | some h =>
    obtain ⟨vb, ⟨_, ⟨g, c⟩, _⟩⟩ := D
    exact (held_any (hs := []) ⟨c, World.ownsRow_nil _ _ _ _⟩).mono (by rintro e w' ⟨rfl, n, rfl⟩; exact ⟨rfl, drewN_keeps _ _⟩)
theorem live_len (hl : Live (ckH most) szN hs) (hb : AreBytes hs) : hs.length ≤ 4294967400 := by
  rcases hl with h | ⟨_, _, h⟩
  · omega
  · have := dL_bounds (hb.take 12)
    have := szH_nat (hb.take 12)
    unfold szH at this
    split at this <;> omega
theorem wants_s (D : DecS A own i j w p most hs dead) : Calls Tryd.prog 12 #[dPtr p] w fun e w' => e = .returned (.int .i64 (wantsS hs dead)) ∧ Keeps Nowhere w w' := by
  cases dead with
  | none =>
    obtain ⟨⟨g, d, hg⟩, l⟩ := D
    refine (wants_m d (live_len l d.b)).mono ?_
    rw [wantsI_live l d.b hg]
    exact fun e w' h => h
  | some h =>
    obtain ⟨vb, ⟨_, ⟨g, c⟩, _⟩⟩ := D
    exact (wants_dead c).mono (by rintro e w' ⟨rfl, n, rfl⟩; exact ⟨rfl, drewN_keeps _ _⟩)
theorem err_s (D : DecS A own i j w p most hs dead) : Calls Tryd.prog 17 #[dPtr p] w fun e w' => ∃ ev, e = .returned ev ∧ Aside (ErrS A own j w' most ev dead) ∧ Aside (Keeps Nowhere w w') := by
  cases dead with
  | none =>
    obtain ⟨g, ⟨_, ⟨hv, d, _⟩, _, _⟩, _⟩ := DecL.d D
    exact (err_live d.c).mono (by rintro e w' ⟨rfl, n, rfl⟩; exact ⟨_, rfl, ⟨rfl⟩, ⟨drewN_keeps _ _⟩⟩)
  | some h =>
    obtain ⟨vb, ⟨_, ⟨g, c⟩, v⟩⟩ := D
    exact (err_dead c).mono (by rintro e w' ⟨rfl, n, rfl⟩; exact ⟨_, rfl, ⟨vb, rfl, v.quiet (drewN_keeps _ _)⟩, ⟨drewN_keeps _ _⟩⟩)
theorem ErrS.quiet {ev : Value} (E : ErrS A own j w most ev dead) (hk : Keeps Nowhere w w') : ErrS A own j w' most ev dead := by
  cases dead with
  | none => exact E
  | some h => obtain ⟨vb, e, v⟩ := E; exact ⟨vb, e, v.quiet hk⟩
theorem ErrS.others {ev : Value} {own' : Nat → Nat} (E : ErrS A own j w most ev dead) (hk : Keeps (fun k => own k = i) w w') (hij : j ≠ i) (he : ∀ k, k < w.heap.size → own' k = own k) : ErrS A own' j w' most ev dead := by
  cases dead with
  | none => exact E
  | some h =>
    obtain ⟨vb, e, o, k, a, b, c, d⟩ := E
    exact ⟨vb, e, (he vb d.lt).trans o, k, a, b, c, d.later hk (fun e' => hij (o.symm.trans e'))⟩
theorem code_s {ev : Value} (B : Base A w) (E : ErrS A own j w most ev dead) : Calls Tryd.prog 15 #[ev] w fun e w' => e = .returned (.int .i64 (codeS most dead)) ∧ w' = w := by
  cases dead with
  | none =>
    obtain rfl : ev = .nilIface := E
    exact code_nil w
  | some h =>
    obtain ⟨vb, rfl, o, k, a, b, c, d⟩ := E
    refine (code_viol B.s vb k a b (d.cell 1)).mono ?_
    rintro e w' ⟨rfl, rfl⟩
    exact ⟨by show _ = Ending.returned (.int .i64 (1000 + chkH most h)); rw [c], rfl⟩
theorem stream_s {ev : Value} (B : Base A w) (E : ErrS A own j w most ev dead) : Calls Tryd.prog 14 #[ev] w fun e w' => e = .returned (.tuple #[.int .u32 (strmS dead), .bool dead.isSome]) ∧ Keeps Nowhere w w' := by
  cases dead with
  | none =>
    obtain rfl : ev = .nilIface := E
    exact (stream_nil w).mono (by rintro e w' ⟨rfl, hb⟩; exact ⟨rfl, Keeps.ofBelow hb⟩)
  | some h =>
    obtain ⟨vb, rfl, o, k, a, b, c, d⟩ := E
    exact (stream_viol w vb (dS h) B.e (d.cell 0)).mono (by rintro e w' ⟨rfl, hb⟩; exact ⟨rfl, Keeps.ofBelow hb⟩)
end
end Go.Proofs.YtjhjhmhhnifgmaaDoor
