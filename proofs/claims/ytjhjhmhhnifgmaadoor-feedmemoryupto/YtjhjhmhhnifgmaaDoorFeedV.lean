/-
  FeedAll: its world and the calls
-/
import Derived.Test.YtjhjhmhhnifgmaaDoorFeedPieces
import Derived.Test.YtjhjhmhhnifgmaaDoorFeedQ
import Derived.Test.YtjhjhmhhnifgmaaDoorGivesX
import Derived.Test.YtjhjhmhhnifgmaaDoorCodedZ
namespace Go.Proofs.YtjhjhmhhnifgmaaDoor
open Go.RowKit

theorem flat_at (fs : List (List Int × List Int)) (k : Nat) (h d tl : List Int) (hk : fs[k]? = some (h, d)) :
    ((flat fs ++ tl).drop (flat (fs.take k)).length).take (h ++ d).length = h ++ d ∧ (flat (fs.take k)).length + (h ++ d).length ≤ (flat fs ++ tl).length ∧ (flat (fs.take (k + 1))).length = (flat (fs.take k)).length + (h ++ d).length := by
  obtain ⟨hlt, hget⟩ := List.getElem?_eq_some_iff.1 hk
  have e1 : fs.take (k + 1) = fs.take k ++ [(h, d)] := by rw [List.take_add_one, hk]; rfl
  have e2 : flat (fs.take (k + 1)) = flat (fs.take k) ++ (h ++ d) := by rw [e1, flat_append]; simp [flat]
  have e3 : flat fs = flat (fs.take (k + 1)) ++ flat (fs.drop (k + 1)) := by rw [← flat_append, List.take_append_drop]
  have e4 : flat fs ++ tl = flat (fs.take k) ++ ((h ++ d) ++ (flat (fs.drop (k + 1)) ++ tl)) := by rw [e3, e2]; simp
  refine ⟨?_, ?_, ?_⟩
  · rw [e4, List.drop_left, List.take_left]
  · rw [e4]; simp only [List.length_append]; omega
  · rw [e2, List.length_append]
theorem chkH_le (most : Int) (h : List Int) : 0 ≤ chkH most h ∧ chkH most h ≤ 42 := by
  unfold chkH chk
  repeat' split
  all_goals omega
section
variable {A : Nat → Addr} {w0 W w' : World} {own : Nat → Nat} {p b : Nat} {most : Int} {o : Out} {fv ev x : Value} {h d xs tl : List Int} {cs : List Value}
theorem Coded.le {v : Value} {k : Int} (h : Coded A v k) : 0 ≤ k ∧ k ≤ 42 := by
  rcases h with ⟨_, h⟩ | ⟨i, hi, _, _, h⟩ <;> omega
structure FaAt (A : Nat → Addr) (w0 : World) (own : Nat → Nat) (p : Nat) (most : Int) (o : Out) (fv ev : Value) (W : World) : Prop where
  b : Base A w0
  k : Below w0.heap.size w0 W
  g : Gave A own 1 2 p most o fv ev W
theorem FaAt.quiet (h : FaAt A w0 own p most o fv ev W) (hk : Keeps Nowhere W w') : FaAt A w0 own p most o fv ev w' := ⟨h.b, h.k.trans (hk.bel.mono h.k.size), h.g.quiet hk⟩
theorem FaAt.base (h : FaAt A w0 own p most o fv ev W) : Base A W := h.b.later h.k
/-- .. and a thing in its box, and bytes -/
structure FbAt (A : Nat → Addr) (w0 : World) (own : Nat → Nat) (p : Nat) (most : Int) (o : Out) (fv ev : Value) (b : Nat) (e : TypeId) (cs : List Value) (x : Value) (xs : List Int) (W : World) : Prop where
  a : FaAt A w0 own p most o fv ev W
  box : Cells W b e cs
  x : Rd W x xs
theorem FbAt.quiet {e : TypeId} (h : FbAt A w0 own p most o fv ev b e cs x xs W) (hk : Keeps Nowhere W w') : FbAt A w0 own p most o fv ev b e cs x xs w' := ⟨h.a.quiet hk, h.box.later hk (fun x => x), h.x.later hk.bel⟩
theorem check_a {e : TypeId} (H : Aside (FbAt A w0 own p most o fv ev b e cs x xs W)) (hb : AreBytes h) (hc : chkH most h = 0) :
    Calls Tryd.prog 28 #[hdr (dV h) (dT h) (dF h) (dS h) (dL h), .int .i64 most] W fun e' w' => e' = .returned .nilIface ∧ Aside (FbAt A w0 own p most o fv ev b e cs x xs w') := by
  refine (check_any (dV h) (dT h) (dF h) (dS h) (dL h) most W H.it.a.base.s H.it.a.base.l (dT_bounds hb).1 (dT_bounds hb).2 (dF_bounds hb).1 (dL_bounds hb).1 (dL_bounds hb).2).mono ?_
  rintro e' w' ⟨⟨er, rfl, hv⟩, hbe⟩
  have hv' : Coded A er (chkH most h) := hv
  rw [hc] at hv'
  have e := hv'.zero
  subst e
  exact ⟨rfl, ⟨H.it.quiet (Keeps.ofBelow hbe)⟩⟩
theorem check_e {e : TypeId} (H : Aside (FbAt A w0 own p most o fv ev b e cs x xs W)) (hb : AreBytes h) :
    Calls Tryd.prog 28 #[hdr (dV h) (dT h) (dF h) (dS h) (dL h), .int .i64 most] W fun e' w' => ∃ er, e' = .returned er ∧ Aside (Coded A er (chkH most h)) ∧ Aside (FbAt A w0 own p most o fv ev b e cs x xs w') := by
  refine (check_any (dV h) (dT h) (dF h) (dS h) (dL h) most W H.it.a.base.s H.it.a.base.l (dT_bounds hb).1 (dT_bounds hb).2 (dF_bounds hb).1 (dL_bounds hb).1 (dL_bounds hb).2).mono ?_
  rintro e' w' ⟨⟨er, rfl, hv⟩, hbe⟩
  exact ⟨er, rfl, ⟨hv⟩, ⟨H.it.quiet (Keeps.ofBelow hbe)⟩⟩
theorem code_a {e : TypeId} {er : Value} {k : Int} (hc : Aside (Coded A er k)) (H : Aside (FbAt A w0 own p most o fv ev b e cs x xs W)) : Calls Tryd.prog 15 #[er] W fun e w' => e = .returned (.int .i64 k) ∧ w' = W := code_of (A := A) H.it.a.base.s hc.it
theorem code_v {e : TypeId} {k : Int} (hk : codeS most o.dead = k) (H : Aside (FbAt A w0 own p most o fv ev b e cs x xs W)) : Calls Tryd.prog 15 #[ev] W fun e w' => e = .returned (.int .i64 k) ∧ w' = W := by rw [← hk]; exact code_s H.it.a.base H.it.a.g.E
theorem held_a {n : Nat} (hn : heldS o.rest o.dead = n) (H : Aside (FaAt A w0 own p most o fv ev W)) : Calls Tryd.prog 10 #[dPtr p] W fun e w' => e = .returned (.int .i64 n) ∧ Aside (FaAt A w0 own p most o fv ev w') := by
  refine (held_s H.it.g.D).mono ?_
  rintro e w' ⟨rfl, k⟩
  exact ⟨by rw [hn], ⟨H.it.quiet k⟩⟩
theorem held_b {e : TypeId} {n : Nat} (hn : heldS o.rest o.dead = n) (H : Aside (FbAt A w0 own p most o fv ev b e cs x xs W)) : Calls Tryd.prog 10 #[dPtr p] W fun e' w' => e' = .returned (.int .i64 n) ∧ Aside (FbAt A w0 own p most o fv ev b e cs x xs w') := by
  refine (held_s H.it.a.g.D).mono ?_
  rintro e w' ⟨rfl, k⟩
  exact ⟨by rw [hn], ⟨H.it.quiet k⟩⟩
theorem wants_b {e : TypeId} {n : Nat} (hn : wantsS o.rest o.dead = n) (H : Aside (FbAt A w0 own p most o fv ev b e cs x xs W)) : Calls Tryd.prog 12 #[dPtr p] W fun e' w' => e' = .returned (.int .i64 n) ∧ Aside (FbAt A w0 own p most o fv ev b e cs x xs w') := by
  refine (wants_s H.it.a.g.D).mono ?_
  rintro e w' ⟨rfl, k⟩
  exact ⟨by rw [hn], ⟨H.it.quiet k⟩⟩
theorem err_a (hd : o.dead = none) (H : Aside (FaAt A w0 own p most o fv ev W)) : Calls Tryd.prog 17 #[dPtr p] W fun e w' => e = .returned .nilIface ∧ Aside (FaAt A w0 own p most o fv ev w') := by
  refine (err_s H.it.g.D).mono ?_
  rintro e w' ⟨er, rfl, E, k⟩
  have E' := E.it
  rw [hd] at E'
  have e : er = .nilIface := E'
  subst e
  exact ⟨rfl, ⟨H.it.quiet k.it⟩⟩
theorem stream_a {e : TypeId} (hd : o.dead = some h) (H : Aside (FbAt A w0 own p most o fv ev b e cs x xs W)) : Calls Tryd.prog 14 #[ev] W fun e' w' => e' = .returned (.tuple #[.int .u32 (dS h), .bool true]) ∧ Aside (FbAt A w0 own p most o fv ev b e cs x xs w') := by
  refine (stream_s H.it.a.base H.it.a.g.E).mono ?_
  rintro e w' ⟨rfl, k⟩
  exact ⟨by rw [hd]; rfl, ⟨H.it.quiet k⟩⟩
theorem decode_a {v : Value} (H : Aside (FaAt A w0 own p most o fv ev W)) (hr : Rd w0 v (h ++ tl)) (hh : h.length = 12) (hb : AreBytes (h ++ tl)) : Calls Tryd.prog 27 #[v] W fun e w' => e = .returned (.tuple #[hdr (dV h) (dT h) (dF h) (dS h) (dL h), .nilIface]) ∧ Aside (FaAt A w0 own p most o fv ev w') := by
  refine (decode_any v (h ++ tl) W H.it.base.s (hr.later H.it.k) hb).mono ?_
  rintro e w' ⟨er, rfl, hc, hbe⟩
  obtain ⟨e1, e2, e3, e4, e5, e6⟩ := d_app h tl hh
  have hc' := hc.it
  rw [e6] at hc'
  have e := hc'.zero
  subst e
  refine ⟨?_, ⟨H.it.quiet (Keeps.ofBelow hbe)⟩⟩
  show _ = Ending.returned (.tuple #[hdr _ _ _ _ _, .nilIface])
  rw [← e1, ← e2, ← e3, ← e4, ← e5]
/-- a part of the argument, and bytes, as strings -/
theorem FbAt.strs {e : TypeId} {q : Option Addr} {L c t n : Nat} {bs : List Int} (hr : Rd w0 (.slice q L c) bs) (hle : t + n ≤ bs.length) (hseg : (bs.drop t).take n = xs) (H : Aside (FbAt A w0 own p most o fv ev b e cs x xs W)) :
    (convert 29 9 x).run Tryd.prog W = .ok (.string (strOf xs)) W ∧ (convert 29 9 (.slice (if c = t then q else q.map (·.add t)) n (c - t))).run Tryd.prog W = .ok (.string (strOf xs)) W := by
  have r : RdS Nowhere W (.slice q L c) bs := hr.later H.it.a.k
  refine ⟨run_bytesStr (P := Tryd.prog) W 29 9 5 _ _ Tryd.underlying29 Tryd.underlying5 Tryd.underlying9 H.it.x.holds, ?_⟩
  rw [← hseg]
  exact run_bytesStr (P := Tryd.prog) W 29 9 5 _ _ Tryd.underlying29 Tryd.underlying5 Tryd.underlying9 (r.seg hle).rd.holds
end
end Go.Proofs.YtjhjhmhhnifgmaaDoor
