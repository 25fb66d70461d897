/-
  layer 7's laws: do; three Sends in a law's world
-/
import Derived.Test.YtefaicgfcibofaaDoorCredC
import Derived.Deep.RegionHeldLaw
namespace Go.Proofs.YtefaicgfcibofaaDoor
open Go.RowKit

section
variable {own own' own1 : Nat → Nat} {i : Nat} {w w' w1 w0 : World} {p q r : Nat} {W c s c1 s1 c2 s2 c3 s3 : Int} {I : Nat → Prop} {A : Nat → Addr}

theorem Ends.after {k : Int} {e : Ending} (h : Sn (fun k => k = i) own w own1 w1) (x : Ends A own1 i w1 p W c s k e w') : Ends A own i w p W c s k e w' := by
  obtain ⟨v, own', he, hv, X⟩ := x
  exact ⟨v, own', he, hv, ⟨X.it.1, h.trans X.it.2⟩⟩
def doE (W c : Int) (z : OpV7) : Int := if z.kind = 2 then spE c z.n else if z.kind = 3 then grE W c z.d else 0
def doC (W c : Int) (z : OpV7) : Int := if z.kind = 2 then spC c z.n else if z.kind = 3 then grC W c z.d else c
def doS (c s : Int) (z : OpV7) : Int := if z.kind = 2 then spS c s z.n else s
theorem do_any (h : SendO own i w p W c s) (hs : Sents 70 codeVars A w) (z : OpV7) (hd : 0 ≤ z.d) :
    Calls Tryd.prog 16 #[ptr p, .agg #[.int .i64 z.kind, .int .i64 z.n, .int .u32 z.d]] w fun e w' => Ends A own i w p W (doC W c z) (doS c s z) (doE W c z) e w' := by
  obtain ⟨kind, n, d⟩ := z
  simp only at hd ⊢
  obtain ⟨w1, hw1⟩ : ∃ w1, w1 = w.alloc (.cells #[.int .i64 kind, .int .i64 n, .int .u32 d] 36) := ⟨_, rfl⟩
  have B : Cells w1 w.heap.size 36 [.int .i64 kind, .int .i64 n, .int .u32 d] := by rw [hw1]; exact Cells.new w _ _
  have K : Keeps Nowhere w w1 := by rw [hw1]; exact (Keeps.refl _ _).alloc _
  have s1 : Aside (Sn (fun k => k = i) own w (give own w.heap.size 0) w1) := ⟨Sn.quiet K 0⟩
  have s1' : Sn (fun _ => False) own w (give own w.heap.size 0) w1 := Sn.quiet K 0
  have h1 := Aside.mk (h.sn s1' (fun x => x))
  have hs1 := Aside.mk (hs.later K.bel)
  have P := Aside.mk (spend_any h1.it n hs1.it)
  have G := Aside.mk (grant_any h1.it d hs1.it hd)
  have b0 : w1.cell? ⟨w.heap.size, 0, none⟩ = some (.int .i64 kind) := by rw [B.cell]; rfl
  have b1 : w1.cell? ⟨w.heap.size, 1, none⟩ = some (.int .i64 n) := by rw [B.cell]; rfl
  have b2 : w1.cell? ⟨w.heap.size, 2, none⟩ = some (.int .u32 d) := by rw [B.cell]; rfl
  clear h hs B K s1'
  unfold doC doS doE
  go_enter Tryd.func16, Tryd.ntmps16
  go_upto_region 1 with fail
  rw [← hw1]
  clear hw1
  by_cases h2 : kind = 2
  · subst h2
    go_wp2_with (first | (go_at_call 10; refine P.it.mono ?_; rintro e w2 ⟨v, own2, rfl, hv, X⟩) | fail)
    go_ret
    exact Ends.after s1.it ⟨v, own2, rfl, hv, X⟩
  · by_cases h3 : kind = 3
    · subst h3
      go_wp2_with (first | (go_at_call 12; refine G.it.mono ?_; rintro e w2 ⟨v, own2, rfl, hv, X⟩) | fail)
      go_ret
      exact Ends.after s1.it ⟨v, own2, rfl, hv, X⟩
    · go_wp2_with fail
      go_ret
      exact Ends.after s1.it (Ends.quiet h1.it Coded.none (Keeps.refl _ _))

/-- three Sends of one window -/
structure Tw7 (A : Nat → Addr) (w0 : World) (p q r : Nat) (W c1 s1 c2 s2 c3 s3 : Int) (own : Nat → Nat) (w : World) : Prop where
  p : SendO own 1 w p W c1 s1
  q : SendO own 2 w q W c2 s2
  r : SendO own 3 w r W c3 s3
  g : OnG A w0 own w
theorem Tw7.quiet (h : Aside (Tw7 A w0 p q r W c1 s1 c2 s2 c3 s3 own w)) (k : Keeps Nowhere w w') : Aside (Tw7 A w0 p q r W c1 s1 c2 s2 c3 s3 own w') := ⟨⟨h.it.p.quiet k, h.it.q.quiet k, h.it.r.quiet k, h.it.g.quiet k⟩⟩
theorem Tw7.doP (h : Aside (Tw7 A w0 p q r W c1 s1 c2 s2 c3 s3 own w)) (z : OpV7) (hd : 0 ≤ z.d) :
    Calls Tryd.prog 16 #[ptr p, .agg #[.int .i64 z.kind, .int .i64 z.n, .int .u32 z.d]] w fun e w' => ∃ v own', e = .returned v ∧ Hid (Coded A v (doE W c1 z)) ∧ Aside (Tw7 A w0 p q r W (doC W c1 z) (doS c1 s1 z) c2 s2 c3 s3 own' w') := by
  refine (do_any h.it.p h.it.g.sents z hd).mono ?_
  rintro e w' ⟨v, own', rfl, hv, X⟩
  exact ⟨v, own', rfl, hv, ⟨⟨X.it.1, h.it.q.sn X.it.2 (by decide), h.it.r.sn X.it.2 (by decide), h.it.g.sn X.it.2 (by decide)⟩⟩⟩
theorem Tw7.doQ (h : Aside (Tw7 A w0 p q r W c1 s1 c2 s2 c3 s3 own w)) (z : OpV7) (hd : 0 ≤ z.d) :
    Calls Tryd.prog 16 #[ptr q, .agg #[.int .i64 z.kind, .int .i64 z.n, .int .u32 z.d]] w fun e w' => ∃ v own', e = .returned v ∧ Aside (Tw7 A w0 p q r W c1 s1 (doC W c2 z) (doS c2 s2 z) c3 s3 own' w') := by
  refine (do_any h.it.q h.it.g.sents z hd).mono ?_
  rintro e w' ⟨v, own', rfl, hv, X⟩
  exact ⟨v, own', rfl, ⟨⟨h.it.p.sn X.it.2 (by decide), X.it.1, h.it.r.sn X.it.2 (by decide), h.it.g.sn X.it.2 (by decide)⟩⟩⟩
theorem Tw7.doR (h : Aside (Tw7 A w0 p q r W c1 s1 c2 s2 c3 s3 own w)) (z : OpV7) (hd : 0 ≤ z.d) :
    Calls Tryd.prog 16 #[ptr r, .agg #[.int .i64 z.kind, .int .i64 z.n, .int .u32 z.d]] w fun e w' => ∃ v own', e = .returned v ∧ Hid (Coded A v (doE W c3 z)) ∧ Aside (Tw7 A w0 p q r W c1 s1 c2 s2 (doC W c3 z) (doS c3 s3 z) own' w') := by
  refine (do_any h.it.r h.it.g.sents z hd).mono ?_
  rintro e w' ⟨v, own', rfl, hv, X⟩
  exact ⟨v, own', rfl, hv, ⟨⟨h.it.p.sn X.it.2 (by decide), h.it.q.sn X.it.2 (by decide), X.it.1, h.it.g.sn X.it.2 (by decide)⟩⟩⟩
theorem Tw7.code {v : Value} {k : Int} (h : Aside (Tw7 A w0 p q r W c1 s1 c2 s2 c3 s3 own w)) (hv : Hid (Coded A v k)) : Calls Tryd.prog 9 #[v] w fun e w' => e = .returned (.int .i64 k) ∧ w' = w := code_of (A := A) h.it.g.sents hv.out
/-- what a slice's k-th thing is, in a later world -/
theorem ListAt.read {sa : Option Addr} {M : Nat} {zs : List OpV7} (hM : M = zs.length)
    (hat : ∀ i z, zs[i]? = some z → ∃ b o cs, sa = some ⟨b, o, none⟩ ∧ Op7Ok z cs ∧ cs.length = 3 ∧ ∀ j, j < 3 → w0.cell? ⟨b, o + i * 3 + j, none⟩ = cs[j]?) (k : Nat) (hk : k < M) :
    ∃ z sb so, Op7Ok z z.cells ∧ sa = some ⟨sb, so, none⟩ ∧ ∀ own w, OnG A w0 own w → w.cell? ⟨sb, so + k * 3, none⟩ = some (.int .i64 z.kind) ∧ w.cell? ⟨sb, so + k * 3 + 1, none⟩ = some (.int .i64 z.n) ∧ w.cell? ⟨sb, so + k * 3 + 2, none⟩ = some (.int .u32 z.d) := by
  subst hM
  obtain ⟨sb, so, cs, rfl, hok, hl, hc⟩ := hat k zs[k] (List.getElem?_eq_getElem hk)
  have e := hok.1
  subst e
  have h0 := hc 0 (by decide)
  have h1 := hc 1 (by decide)
  have h2 := hc 2 (by decide)
  exact ⟨_, sb, so, hok, rfl, fun own w g => ⟨g.g.cell rfl h0, g.g.cell rfl h1, g.g.cell rfl h2⟩⟩
end
end Go.Proofs.YtefaicgfcibofaaDoor
