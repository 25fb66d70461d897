/-
  FeedPieces.
-/
import Derived.Test.YtigcfonlcknpaaaDoorGivesX
import Derived.Test.YtigcfonlcknpaaaDoorSameFr
namespace Go.Proofs.YtigcfonlcknpaaaDoor
open Go.RowKit

section
variable {A : Nat → Addr} {w : World} {most : Int}
theorem gives_bad (B : Base A w) (h : most < 1 ∨ 65536 < most) (x y : Value) :
    Calls Tryd.prog 23 #[.int .i64 most, x, y] w fun e w' => e = .returned (.tuple #[.slice none 0 0, .iface 132 (.pointer (some (A 1))), .pointer none]) ∧ Keeps Nowhere w w' := by
  have N := Aside.mk (new_bad most w B.s h)
  clear B h
  go_enter Tryd.func23, Tryd.ntmps23
  go_wp2_with (go_at_call 9; refine N.it.mono ?_; rintro e w1 ⟨rfl, n1, rfl⟩)
  refine bodyPost_ret (v := .tuple #[.slice none 0 0, .iface 132 (.pointer (some (A 1))), .pointer none]) (by simp [results, Tryd.results23, go_sem]) rfl ?_
  exact ⟨rfl, drewN_keeps _ _⟩
/-- two lists of numbers in a struct -/
structure CutsArg (w : World) (a b : Value) (za zb : List Int) : Prop where
  a : Holds .i64 w a za
  b : Holds .i64 w b zb
  la : za.length ≤ 1048576
  lb : zb.length ≤ 1048576
theorem Holds.len {k : IntKind} {v : Value} {ns : List Int} (h : Holds k w v ns) : ∃ q c, v = .slice q ns.length c := by
  obtain ⟨a, l, c, rfl, hl, _⟩ := h
  exact ⟨a, c, by rw [hl]⟩
/-- the law's world: both have been given -/
structure PAt (A : Nat → Addr) (w0 : World) (most : Int) (o : Out) (ow1 ow2 : Nat → Nat) (p1 p2 : Nat) (f1 e1 f2 e2 : Value) (w : World) : Prop where
  b : Base A w0
  k : Below w0.heap.size w0 w
  g1 : Gave A ow1 1 2 p1 most o f1 e1 w
  g2 : Gave A ow2 1 2 p2 most o f2 e2 w
section
variable {w0 : World} {o : Out} {ow1 ow2 : Nat → Nat} {p1 p2 : Nat} {f1 e1 f2 e2 : Value}
theorem PAt.quiet {w' : World} (h : PAt A w0 most o ow1 ow2 p1 p2 f1 e1 f2 e2 w) (hk : Keeps Nowhere w w') : PAt A w0 most o ow1 ow2 p1 p2 f1 e1 f2 e2 w' := ⟨h.b, h.k.trans (hk.bel.mono h.k.size), h.g1.quiet hk, h.g2.quiet hk⟩
theorem stream_p1 (h : Aside (PAt A w0 most o ow1 ow2 p1 p2 f1 e1 f2 e2 w)) (s : Int) (k : Bool) (hs : strmS o.dead = s) (hk : o.dead.isSome = k) :
    Calls Tryd.prog 24 #[e1] w fun e w' => e = .returned (.tuple #[.int .u32 s, .bool k]) ∧ Aside (PAt A w0 most o ow1 ow2 p1 p2 f1 e1 f2 e2 w') :=
  (stream_s (h.it.b.later h.it.k) h.it.g1.E).mono (by rintro e w' ⟨rfl, hk'⟩; exact ⟨by rw [hs, hk], ⟨h.it.quiet hk'⟩⟩)
theorem stream_p2 (h : Aside (PAt A w0 most o ow1 ow2 p1 p2 f1 e1 f2 e2 w)) (s : Int) (k : Bool) (hs : strmS o.dead = s) (hk : o.dead.isSome = k) :
    Calls Tryd.prog 24 #[e2] w fun e w' => e = .returned (.tuple #[.int .u32 s, .bool k]) ∧ Aside (PAt A w0 most o ow1 ow2 p1 p2 f1 e1 f2 e2 w') :=
  (stream_s (h.it.b.later h.it.k) h.it.g2.E).mono (by rintro e w' ⟨rfl, hk'⟩; exact ⟨by rw [hs, hk], ⟨h.it.quiet hk'⟩⟩)
theorem code_p1 (h : Aside (PAt A w0 most o ow1 ow2 p1 p2 f1 e1 f2 e2 w)) (s : Int) (hs : codeS most o.dead = s) : Calls Tryd.prog 10 #[e1] w fun e w' => e = .returned (.int .i64 s) ∧ w' = w :=
  (code_s (h.it.b.later h.it.k) h.it.g1.E).mono (by rintro e w' ⟨rfl, rfl⟩; exact ⟨by rw [hs], rfl⟩)
theorem code_p2 (h : Aside (PAt A w0 most o ow1 ow2 p1 p2 f1 e1 f2 e2 w)) (s : Int) (hs : codeS most o.dead = s) : Calls Tryd.prog 10 #[e2] w fun e w' => e = .returned (.int .i64 s) ∧ w' = w :=
  (code_s (h.it.b.later h.it.k) h.it.g2.E).mono (by rintro e w' ⟨rfl, rfl⟩; exact ⟨by rw [hs], rfl⟩)
theorem same_p (h : Aside (PAt A w0 most o ow1 ow2 p1 p2 f1 e1 f2 e2 w)) (hn : o.fs.length ≤ 1099511627776) : Calls Tryd.prog 19 #[f1, f2] w fun e w' => e = .returned (.bool true) ∧ Aside (PAt A w0 most o ow1 ow2 p1 p2 f1 e1 f2 e2 w') :=
  (sameFrames_eq f1 f2 o.fs h.it.g1.F.reads h.it.g2.F.reads hn).mono (by rintro e w' ⟨rfl, hk⟩; exact ⟨rfl, ⟨h.it.quiet hk⟩⟩)
theorem held_p1 (h : Aside (PAt A w0 most o ow1 ow2 p1 p2 f1 e1 f2 e2 w)) (n : Nat) (hn : heldS o.rest o.dead = n) : Calls Tryd.prog 11 #[dPtr p1] w fun e w' => e = .returned (.int .i64 n) ∧ Aside (PAt A w0 most o ow1 ow2 p1 p2 f1 e1 f2 e2 w') :=
  (held_s h.it.g1.D).mono (by rintro e w' ⟨rfl, hk⟩; exact ⟨by rw [hn], ⟨h.it.quiet hk⟩⟩)
theorem held_p2 (h : Aside (PAt A w0 most o ow1 ow2 p1 p2 f1 e1 f2 e2 w)) (n : Nat) (hn : heldS o.rest o.dead = n) : Calls Tryd.prog 11 #[dPtr p2] w fun e w' => e = .returned (.int .i64 n) ∧ Aside (PAt A w0 most o ow1 ow2 p1 p2 f1 e1 f2 e2 w') :=
  (held_s h.it.g2.D).mono (by rintro e w' ⟨rfl, hk⟩; exact ⟨by rw [hn], ⟨h.it.quiet hk⟩⟩)
theorem wants_p1 (h : Aside (PAt A w0 most o ow1 ow2 p1 p2 f1 e1 f2 e2 w)) (n : Nat) (hn : wantsS o.rest o.dead = n) : Calls Tryd.prog 12 #[dPtr p1] w fun e w' => e = .returned (.int .i64 n) ∧ Aside (PAt A w0 most o ow1 ow2 p1 p2 f1 e1 f2 e2 w') :=
  (wants_s h.it.g1.D).mono (by rintro e w' ⟨rfl, hk⟩; exact ⟨by rw [hn], ⟨h.it.quiet hk⟩⟩)
theorem wants_p2 (h : Aside (PAt A w0 most o ow1 ow2 p1 p2 f1 e1 f2 e2 w)) (n : Nat) (hn : wantsS o.rest o.dead = n) : Calls Tryd.prog 12 #[dPtr p2] w fun e w' => e = .returned (.int .i64 n) ∧ Aside (PAt A w0 most o ow1 ow2 p1 p2 f1 e1 f2 e2 w') :=
  (wants_s h.it.g2.D).mono (by rintro e w' ⟨rfl, hk⟩; exact ⟨by rw [hn], ⟨h.it.quiet hk⟩⟩)
theorem err_p1 (h : Aside (PAt A w0 most o ow1 ow2 p1 p2 f1 e1 f2 e2 w)) : Calls Tryd.prog 13 #[dPtr p1] w fun e w' => ∃ ev, e = .returned ev ∧ Aside (ErrS A ow1 2 w' most ev o.dead) ∧ Aside (PAt A w0 most o ow1 ow2 p1 p2 f1 e1 f2 e2 w') :=
  (err_s h.it.g1.D).mono (by rintro e w' ⟨ev, rfl, he, hk⟩; exact ⟨ev, rfl, he, ⟨h.it.quiet hk.it⟩⟩)
theorem code_e (h : Aside (PAt A w0 most o ow1 ow2 p1 p2 f1 e1 f2 e2 w)) {ev : Value} (E : Aside (ErrS A ow1 2 w most ev o.dead)) (s : Int) (hs : codeS most o.dead = s) : Calls Tryd.prog 10 #[ev] w fun e w' => e = .returned (.int .i64 s) ∧ w' = w :=
  (code_s (h.it.b.later h.it.k) E.it).mono (by rintro e w' ⟨rfl, rfl⟩; exact ⟨by rw [hs], rfl⟩)
end
set_option maxHeartbeats 800000 in
theorem feedPieces_good (most : Int) (v : Value) (bs : List Int) (ca cb : Value) (za zb : List Int) (B : Base A w) (h1 : 1 ≤ most) (h2 : most ≤ 65536) (R : Rd w v bs) (hb : AreBytes bs) (hL : bs.length ≤ 1048576) (C : CutsArg w ca cb za zb) :
    Calls Tryd.prog 5 #[.int .i64 most, v, .agg #[ca, cb]] w fun e w' => e = .returned (.bool true) ∧ Below w.heap.size w w' := by
  obtain ⟨q, c, rfl⟩ := R.shape
  obtain ⟨qa, c1, rfl⟩ := C.a.len
  obtain ⟨qb, c2, rfl⟩ := C.b.len
  obtain ⟨L, hLL⟩ : ∃ L, Aside (bs.length = L) := ⟨_, ⟨rfl⟩⟩
  obtain ⟨La, hLa⟩ : ∃ L, Aside (za.length = L) := ⟨_, ⟨rfl⟩⟩
  obtain ⟨Lb, hLb⟩ : ∃ L, Aside (zb.length = L) := ⟨_, ⟨rfl⟩⟩
  have lA := C.la
  have lB := C.lb
  have CA := C.a
  have CB := C.b
  rw [hLL.it] at R
  rw [hLa.it] at lA CA
  rw [hLb.it] at lB CB
  rw [hLL.it, hLa.it, hLb.it]
  have BA : Below w.heap.size w (w.alloc (.cells #[.slice qa La c1, .slice qb Lb c2] 52)) := alloc_below _ _
  have F := Aside.mk (fixed5 (B.later BA))
  have GA : Aside (∀ W, Below w.heap.size w W → _) := ⟨fun W hW => gives_any (A := A) (most := most) (B.later hW) h1 h2 q L c bs (R.later hW) hb hL qa La c1 za (CA.later hW) lA⟩
  have GB : Aside (∀ W, Below w.heap.size w W → _) := ⟨fun W hW => gives_any (A := A) (most := most) (B.later hW) h1 h2 q L c bs (R.later hW) hb hL qb Lb c2 zb (CB.later hW) lB⟩
  have HB := Aside.mk B
  have BA := Aside.mk BA
  have hcnt : Aside ((prs most bs).fs.length ≤ 1099511627776) := ⟨by have := parse_count (ck := ckH most) (sz := szN) bs; show (parse (ckH most) szN bs).fs.length ≤ _; omega⟩
  generalize prs most bs = o at *
  obtain ⟨s, hs⟩ : ∃ s, Aside (strmS o.dead = s) := ⟨_, ⟨rfl⟩⟩
  obtain ⟨k, hk⟩ : ∃ k, Aside (o.dead.isSome = k) := ⟨_, ⟨rfl⟩⟩
  obtain ⟨cd, hcd⟩ : ∃ s, Aside (codeS most o.dead = s) := ⟨_, ⟨rfl⟩⟩
  obtain ⟨hd, hhd⟩ : ∃ n, Aside (heldS o.rest o.dead = n) := ⟨_, ⟨rfl⟩⟩
  obtain ⟨wn, hwn⟩ : ∃ n, Aside (wantsS o.rest o.dead = n) := ⟨_, ⟨rfl⟩⟩
  clear R CA CB C hb B h1 h2 hL lA lB
  go_enter Tryd.func5, Tryd.ntmps5
  go_wp2_with (go_at_call 14; refine F.it.mono ?_; rintro e w1 ⟨rfl, b1⟩; have B1 : Aside (Below w.heap.size w w1) := ⟨BA.it.trans (b1.mono BA.it.size)⟩; have x0 : w1.cell? ⟨w.heap.size, 0, none⟩ = some (.slice qa La c1) := (by rw [b1.cell (by simp)]; simp); have x1 : w1.cell? ⟨w.heap.size, 1, none⟩ = some (.slice qb Lb c2) := (by rw [b1.cell (by simp)]; simp); clear b1)
  go_wp2_with (go_at_call_of 23 qa; refine (GA.it w1 B1.it).mono ?_; rintro e w2 ⟨f1, e1, p1, ow1, rfl, X1⟩; have B2 : Aside (Below w.heap.size w w2) := ⟨B1.it.trans (X1.it.1.mono B1.it.size)⟩; have y1 : w2.cell? ⟨w.heap.size, 1, none⟩ = some (.slice qb Lb c2) := (by rw [X1.it.1.cell (World.block_lt_of_cell? w1 _ x1)]; exact x1))
  go_wp2_with (go_at_call_of 23 qb; refine (GB.it w2 B2.it).mono ?_; rintro e w3 ⟨f2, e2, p2, ow2, rfl, X2⟩; have P3 : Aside (PAt A w most o ow1 ow2 p1 p2 f1 e1 f2 e2 w3) := ⟨HB.it, B2.it.trans (X2.it.1.mono B2.it.size), X1.it.2.quiet (Keeps.ofBelow X2.it.1), X2.it.2⟩)
  go_wp2_with (go_at_call_of 24 e1; refine (stream_p1 P3 s k hs.it hk.it).mono ?_; rintro e w4 ⟨rfl, P4⟩)
  go_wp2_with (go_at_call_of 24 e2; refine (stream_p2 P4 s k hs.it hk.it).mono ?_; rintro e w5 ⟨rfl, P5⟩)
  go_wp2_with (go_at_call 19; refine (same_p P5 hcnt.it).mono ?_; rintro e w6 ⟨rfl, P6⟩)
  go_wp2_with (go_at_call_of 10 e1; refine (code_p1 P6 cd hcd.it).mono ?_; rintro e w7 ⟨rfl, rfl⟩)
  go_wp2_with (go_at_call_of 10 e2; refine (code_p2 P6 cd hcd.it).mono ?_; rintro e w8 ⟨rfl, rfl⟩)
  go_wp2_with (go_at_call_of 11 p1; refine (held_p1 P6 hd hhd.it).mono ?_; rintro e w9 ⟨rfl, P9⟩)
  go_wp2_with (go_at_call_of 11 p2; refine (held_p2 P9 hd hhd.it).mono ?_; rintro e w10 ⟨rfl, P10⟩)
  go_wp2_with (go_at_call_of 12 p1; refine (wants_p1 P10 wn hwn.it).mono ?_; rintro e w11 ⟨rfl, P11⟩)
  go_wp2_with (go_at_call_of 12 p2; refine (wants_p2 P11 wn hwn.it).mono ?_; rintro e w12 ⟨rfl, P12⟩)
  go_wp2_with (go_at_call 13; refine (err_p1 P12).mono ?_; rintro e w13 ⟨ev, rfl, E13, P13⟩)
  go_wp2_with (go_at_call_of 10 ev; refine (code_e P13 E13 cd hcd.it).mono ?_; rintro e w14 ⟨rfl, rfl⟩)
  go_wp2_with (go_at_call_of 10 e1; refine (code_p1 P13 cd hcd.it).mono ?_; rintro e w15 ⟨rfl, rfl⟩)
  go_ret
  exact ⟨rfl, P13.it.k⟩
end
end Go.Proofs.YtigcfonlcknpaaaDoor
