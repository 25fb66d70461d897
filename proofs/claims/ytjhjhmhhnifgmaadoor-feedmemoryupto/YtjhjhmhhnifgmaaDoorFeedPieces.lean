/-
  FeedPieces.
-/
import Derived.Test.YtjhjhmhhnifgmaaDoorGivesX
import Derived.Test.YtjhjhmhhnifgmaaDoorSameFr
namespace Go.Proofs.YtjhjhmhhnifgmaaDoor
open Go.RowKit

section
variable {A : Nat → Addr} {w : World} {most : Int}
/-- two lists of numbers in a struct -/
structure CutsArg (w : World) (a b : Value) (za zb : List Int) : Prop where
  a : Holds .i64 w a za
  b : Holds .i64 w b zb
  la : za.length ≤ 1048576
  lb : zb.length ≤ 1048576
theorem Holds.len {k : IntKind} {v : Value} {ns : List Int} (h : Holds k w v ns) : ∃ q c, v = .slice q ns.length c := by
  obtain ⟨a, l, c, rfl, hl, _⟩ := h
  exact ⟨a, c, by rw [hl]⟩
/-- the law's world: both have been given -/
structure PAt (A : Nat → Addr) (w0 : World) (most : Int) (o : Out) (ow1 ow2 : Nat → Nat) (p1 p2 : Nat) (f1 e1 f2 e2 : Value) (w : World) : Prop where
  b : Base A w0
  k : Below w0.heap.size w0 w
  g1 : Gave A ow1 1 2 p1 most o f1 e1 w
  g2 : Gave A ow2 1 2 p2 most o f2 e2 w
section
variable {w0 : World} {o : Out} {ow1 ow2 : Nat → Nat} {p1 p2 : Nat} {f1 e1 f2 e2 : Value}
theorem PAt.quiet {w' : World} (h : PAt A w0 most o ow1 ow2 p1 p2 f1 e1 f2 e2 w) (hk : Keeps Nowhere w w') : PAt A w0 most o ow1 ow2 p1 p2 f1 e1 f2 e2 w' := ⟨h.b, h.k.trans (hk.bel.mono h.k.size), h.g1.quiet hk, h.g2.quiet hk⟩
theorem stream_p1 (h : Aside (PAt A w0 most o ow1 ow2 p1 p2 f1 e1 f2 e2 w)) (s : Int) (k : Bool) (hs : strmS o.dead = s) (hk : o.dead.isSome = k) :
    Calls Tryd.prog 14 #[e1] w fun e w' => e = .returned (.tuple #[.int .u32 s, .bool k]) ∧ Aside (PAt A w0 most o ow1 ow2 p1 p2 f1 e1 f2 e2 w') :=
  (stream_s (h.it.b.later h.it.k) h.it.g1.E).mono (by rintro e w' ⟨rfl, hk'⟩; exact ⟨by rw [hs, hk], ⟨h.it.quiet hk'⟩⟩)
theorem stream_p2 (h : Aside (PAt A w0 most o ow1 ow2 p1 p2 f1 e1 f2 e2 w)) (s : Int) (k : Bool) (hs : strmS o.dead = s) (hk : o.dead.isSome = k) :
    Calls Tryd.prog 14 #[e2] w fun e w' => e = .returned (.tuple #[.int .u32 s, .bool k]) ∧ Aside (PAt A w0 most o ow1 ow2 p1 p2 f1 e1 f2 e2 w') :=
  (stream_s (h.it.b.later h.it.k) h.it.g2.E).mono (by rintro e w' ⟨rfl, hk'⟩; exact ⟨by rw [hs, hk], ⟨h.it.quiet hk'⟩⟩)
theorem code_p1 (h : Aside (PAt A w0 most o ow1 ow2 p1 p2 f1 e1 f2 e2 w)) (s : Int) (hs : codeS most o.dead = s) : Calls Tryd.prog 15 #[e1] w fun e w' => e = .returned (.int .i64 s) ∧ w' = w :=
  (code_s (h.it.b.later h.it.k) h.it.g1.E).mono (by rintro e w' ⟨rfl, rfl⟩; exact ⟨by rw [hs], rfl⟩)
theorem code_p2 (h : Aside (PAt A w0 most o ow1 ow2 p1 p2 f1 e1 f2 e2 w)) (s : Int) (hs : codeS most o.dead = s) : Calls Tryd.prog 15 #[e2] w fun e w' => e = .returned (.int .i64 s) ∧ w' = w :=
  (code_s (h.it.b.later h.it.k) h.it.g2.E).mono (by rintro e w' ⟨rfl, rfl⟩; exact ⟨by rw [hs], rfl⟩)
theorem same_p (h : Aside (PAt A w0 most o ow1 ow2 p1 p2 f1 e1 f2 e2 w)) (hn : o.fs.length ≤ 1099511627776) : Calls Tryd.prog 9 #[f1, f2] w fun e w' => e = .returned (.bool true) ∧ Aside (PAt A w0 most o ow1 ow2 p1 p2 f1 e1 f2 e2 w') :=
  (sameFrames_eq f1 f2 o.fs h.it.g1.F.reads h.it.g2.F.reads hn).mono (by rintro e w' ⟨rfl, hk⟩; exact ⟨rfl, ⟨h.it.quiet hk⟩⟩)
theorem held_p1 (h : Aside (PAt A w0 most o ow1 ow2 p1 p2 f1 e1 f2 e2 w)) (n : Nat) (hn : heldS o.rest o.dead = n) : Calls Tryd.prog 10 #[dPtr p1] w fun e w' => e = .returned (.int .i64 n) ∧ Aside (PAt A w0 most o ow1 ow2 p1 p2 f1 e1 f2 e2 w') :=
  (held_s h.it.g1.D).mono (by rintro e w' ⟨rfl, hk⟩; exact ⟨by rw [hn], ⟨h.it.quiet hk⟩⟩)
theorem held_p2 (h : Aside (PAt A w0 most o ow1 ow2 p1 p2 f1 e1 f2 e2 w)) (n : Nat) (hn : heldS o.rest o.dead = n) : Calls Tryd.prog 10 #[dPtr p2] w fun e w' => e = .returned (.int .i64 n) ∧ Aside (PAt A w0 most o ow1 ow2 p1 p2 f1 e1 f2 e2 w') :=
  (held_s h.it.g2.D).mono (by rintro e w' ⟨rfl, hk⟩; exact ⟨by rw [hn], ⟨h.it.quiet hk⟩⟩)
theorem wants_p1 (h : Aside (PAt A w0 most o ow1 ow2 p1 p2 f1 e1 f2 e2 w)) (n : Nat) (hn : wantsS o.rest o.dead = n) : Calls Tryd.prog 12 #[dPtr p1] w fun e w' => e = .returned (.int .i64 n) ∧ Aside (PAt A w0 most o ow1 ow2 p1 p2 f1 e1 f2 e2 w') :=
  (wants_s h.it.g1.D).mono (by rintro e w' ⟨rfl, hk⟩; exact ⟨by rw [hn], ⟨h.it.quiet hk⟩⟩)
theorem wants_p2 (h : Aside (PAt A w0 most o ow1 ow2 p1 p2 f1 e1 f2 e2 w)) (n : Nat) (hn : wantsS o.rest o.dead = n) : Calls Tryd.prog 12 #[dPtr p2] w fun e w' => e = .returned (.int .i64 n) ∧ Aside (PAt A w0 most o ow1 ow2 p1 p2 f1 e1 f2 e2 w') :=
  (wants_s h.it.g2.D).mono (by rintro e w' ⟨rfl, hk⟩; exact ⟨by rw [hn], ⟨h.it.quiet hk⟩⟩)
theorem err_p1 (h : Aside (PAt A w0 most o ow1 ow2 p1 p2 f1 e1 f2 e2 w)) : Calls Tryd.prog 17 #[dPtr p1] w fun e w' => ∃ ev, e = .returned ev ∧ Aside (ErrS A ow1 2 w' most ev o.dead) ∧ Aside (PAt A w0 most o ow1 ow2 p1 p2 f1 e1 f2 e2 w') :=
  (err_s h.it.g1.D).mono (by rintro e w' ⟨ev, rfl, he, hk⟩; exact ⟨ev, rfl, he, ⟨h.it.quiet hk.it⟩⟩)
theorem code_e (h : Aside (PAt A w0 most o ow1 ow2 p1 p2 f1 e1 f2 e2 w)) {ev : Value} (E : Aside (ErrS A ow1 2 w most ev o.dead)) (s : Int) (hs : codeS most o.dead = s) : Calls Tryd.prog 15 #[ev] w fun e w' => e = .returned (.int .i64 s) ∧ w' = w :=
  (code_s (h.it.b.later h.it.k) E.it).mono (by rintro e w' ⟨rfl, rfl⟩; exact ⟨by rw [hs], rfl⟩)
end
end
end Go.Proofs.YtjhjhmhhnifgmaaDoor
