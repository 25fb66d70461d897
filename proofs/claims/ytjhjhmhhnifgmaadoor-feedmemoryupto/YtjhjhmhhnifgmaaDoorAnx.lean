import Derived.Test.YtjhjhmhhnifgmaaDoorRfx
import Derived.Test.YtjhjhmhhnifgmaaDoorSnx
import Derived.Test.YtjhjhmhhnifgmaaDoorSameFr
import Derived.Test.YtjhjhmhhnifgmaaDoorOpx
import Derived.Deep.RegionHeld3
/-
  the document's Feed, whether it lives or not; what stands when the decoder is fed
-/
namespace Go.Proofs.YtjhjhmhhnifgmaaDoor
open Go.RowKit

section
variable {w : World} {most : Int} {F : List Int}
/-- all that the document's decoder was fed, up to its death -/
def fedN (most : Int) (F B : List Int) : List Int := match (prs most F).dead with | none => F ++ B | some _ => F
/-- the frames that B makes whole, what is held and whether it died -/
def stepO (most : Int) (F B : List Int) : Out := feedO most (prs most F).rest (prs most F).dead B
theorem prs_next (F B : List Int) : (prs most (fedN most F B)).rest = (stepO most F B).rest ∧ (prs most (fedN most F B)).dead = (stepO most F B).dead := by
  unfold fedN stepO feedO
  cases hd : (prs most F).dead with
  | none =>
    simp only
    have := parse_app (ck := ckH most) (sz := szN) F B hd
    unfold prs
    rw [this]
    exact ⟨rfl, rfl⟩
  | some h =>
    simp only
    exact ⟨(parse_died F h hd).1, hd⟩
theorem fedN_len (F B : List Int) : (fedN most F B).length ≤ F.length + B.length := by
  unfold fedN
  split
  · rw [List.length_append]; omega
  · omega
theorem fedN_bytes {F B : List Int} (h1 : AreBytes F) (h2 : AreBytes B) : AreBytes (fedN most F B) := by
  unfold fedN
  split
  · exact fun x hx => (List.mem_append.1 hx).elim (h1 x) (h2 x)
  · exact h1
theorem refFeed_any (q : Option Addr) (L c : Nat) (R : Rd w (.slice q L c) F) (hb : AreBytes F) (ba : Option Addr) (bl bc : Nat) (B : List Int) (RB : Rd w (.slice ba bl bc) B) (hbb : AreBytes B) (hL : F.length + B.length ≤ 16777216) (hm : most ≠ 0) :
    Calls Tryd.prog 7 #[.agg #[.int .i64 most, .slice q L c], .slice ba bl bc] w fun e w' => ∃ q' L' c' fq' fl' fc', e = .returned (.tuple #[.agg #[.int .i64 most, .slice q' L' c'], .slice fq' fl' fc', .int .i64 (codeS most (stepO most F B).dead)]) ∧ Aside (Rd w' (.slice q' L' c') (fedN most F B) ∧ ((∀ g o l c, Value.slice q' L' c' = .slice (some ⟨g, o, none⟩) l c → w.heap.size ≤ g) ∨ Value.slice q' L' c' = .slice q L c)) ∧ Aside (FramesN w.heap.size w' (.slice fq' fl' fc') (stepO most F B).fs) ∧ Aside (Below w.heap.size w w') := by
  cases hd : (prs most F).dead with
  | none =>
    refine (refFeed_live q L c R hb ba bl bc B RB hbb hL hm hd).mono ?_
    rintro e w' ⟨q', L', c', fq', fl', fc', rfl, X1, X2, X3⟩
    have e1 : fedN most F B = F ++ B := by unfold fedN; rw [hd]
    have e2 := parse_app (ck := ckH most) (sz := szN) F B hd
    have e3 : stepO most F B = prs most ((prs most F).rest ++ B) := by unfold stepO feedO; rw [hd]
    have e4 : (prs most (F ++ B)).dead = (stepO most F B).dead := by rw [e3]; unfold prs; rw [e2]
    have e5 : (prs most (F ++ B)).fs.drop (prs most F).fs.length = (stepO most F B).fs := by rw [e3]; unfold prs; rw [e2]; simp
    rw [e4, e1]
    exact ⟨q', L', c', fq', fl', fc', rfl, ⟨X1.it.1, .inl X1.it.2⟩, ⟨by rw [← e5]; exact X2.it⟩, X3⟩
  | some h =>
    refine (refFeed_dead q L c R hb (by omega) hm h hd _).mono ?_
    rintro e w' ⟨rfl, X3⟩
    have e1 : fedN most F B = F := by unfold fedN; rw [hd]
    have e3 : stepO most F B = ⟨[], [], some h⟩ := by unfold stepO feedO; rw [hd]
    rw [e1, e3]
    exact ⟨q, L, c, none, 0, 0, rfl, ⟨R.later X3.it, .inr rfl⟩, ⟨[], rfl, ⟨rfl, none, 0, rfl, Nat.le_refl _, Nat.zero_le _, fun _ => rfl, fun j u hj => by simp [fcells] at hj⟩, fun g o l c e => (by cases e), fun x hx => (by cases hx)⟩, X3⟩
end
end Go.Proofs.YtjhjhmhhnifgmaaDoor

/-
  FeedAnswers' world
-/
namespace Go.Proofs.YtjhjhmhhnifgmaaDoor
open Go.RowKit

section
variable {A : Nat → Addr} {w0 w w' W : World} {own own' own2 : Nat → Nat} {I : Nat → Prop} {i j p mb nb base : Nat} {most : Int} {hs F F2 ns : List Int} {dead : Option (List Int)} {v fv ev : Value} {fs : List (List Int × List Int)}

theorem Gr.sn (h : Gr A w0 own w) (s : Sn I own w own' w') (h0 : ¬ I 0) : Gr A w0 own' w' := ⟨h.b, h.g.sn s h0⟩
theorem VioAt.sn {h : List Int} {vb : Nat} (hv : VioAt A own j w most h vb) (s : Sn I own w own' w') (hj : ¬ I j) : VioAt A own' j w' most h vb := by
  obtain ⟨a, k, b, c, d, e⟩ := hv
  exact ⟨(s.agree vb e.lt).trans a, k, b, c, d, e.later s.keeps (fun e' => hj (a ▸ e'))⟩
theorem DecS.sn (D : DecS A own i j w p most hs dead) (s : Sn I own w own' w') (hi : ¬ I i) (hj : ¬ I j) : DecS A own' i j w' p most hs dead := by
  cases dead with
  | none =>
    obtain ⟨⟨g, ⟨hp, ⟨hv, ⟨c, r⟩, ho⟩, hb, hg'⟩, hg⟩, l⟩ := D
    exact ⟨⟨g, ⟨(s.agree p c.lt).trans hp, ⟨hv, ⟨c.later s.keeps (fun e => hi (hp ▸ e)), owns_later r s.keeps (fun b hb' e => hi (ho b hb' ▸ e))⟩, fun k hk => (s.agree k (owns_lt r k hk)).trans (ho k hk)⟩, hb, hg'⟩, hg⟩, l⟩
  | some h =>
    obtain ⟨vb, a, ⟨g, c⟩, v⟩ := D
    exact ⟨vb, (s.agree p c.lt).trans a, ⟨g, c.later s.keeps (fun e => hi (a ▸ e))⟩, v.sn s hj⟩
theorem Lw.sn (h : Lw A w0 own i j p most hs dead w) (s : Sn I own w own' w') (h0 : ¬ I 0) (hi : ¬ I i) (hj : ¬ I j) : Lw A w0 own' i j p most hs dead w' := ⟨h.G.sn s h0, h.D.sn s hi hj⟩
theorem ErrS.sn (E : ErrS A own j w most ev dead) (s : Sn I own w own' w') (hj : ¬ I j) : ErrS A own' j w' most ev dead := by
  cases dead with
  | none => exact E
  | some h => obtain ⟨vb, e, hv⟩ := E; exact ⟨vb, e, hv.sn s hj⟩
theorem FramesO.sn (h : FramesO own j w fv fs) (s : Sn I own w own' w') (hj : ¬ I j) : FramesO own' j w' fv fs := by
  obtain ⟨xs, f1, f2, f3, f4⟩ := h
  exact ⟨xs, f1, owns_later f2 s.keeps (fun b hb e => hj (f3 b hb ▸ e)), fun k hk => (s.agree k (owns_lt f2 k hk)).trans (f3 k hk), fun x hx => ⟨owns_later (f4 x hx).1 s.keeps (fun b hb e => hj ((f4 x hx).2 b hb ▸ e)), fun k hk => (s.agree k (owns_lt (f4 x hx).1 k hk)).trans ((f4 x hx).2 k hk)⟩⟩
theorem rd_keepS {S : Nat → Prop} (h : Rd W v ns) (hk : Keeps S W w') (hs : ∀ g o l c, v = .slice (some ⟨g, o, none⟩) l c → g < W.heap.size → ¬ S g) : Rd w' v ns := by
  obtain ⟨⟨a', c', rfl, hl, hc⟩, hn⟩ := id h
  refine ⟨⟨a', c', rfl, hl, fun j u hj => ?_⟩, hn⟩
  obtain ⟨x, hx, hno, hce⟩ := hc j u hj
  have hlen : 0 < ns.length := by
    have := (List.getElem?_eq_some_iff.1 hj).1
    rw [bv_length] at this
    omega
  obtain ⟨sb, so, c2, e2, _⟩ := h.at hlen
  injection e2 with e2 e3 e4
  rw [hx] at e2
  injection e2 with e2
  subst e2
  refine ⟨_, hx, fun x => x, ?_⟩
  rw [add_none] at hce ⊢
  have hlt := World.block_lt_of_cell? W _ hce
  rw [World.cell?_of_block (w := W) (hk.block sb hlt (hs sb so _ _ (by rw [hx]) hlt))]
  exact hce
theorem FramesN.keepS {S : Nat → Prop} (h : FramesN base W v fs) (hk : Keeps S W w') (hs : ∀ g, base ≤ g → g < W.heap.size → ¬ S g) : FramesN base w' v fs := by
  obtain ⟨xs, e, ⟨hl, a', c', rfl, h1, h2, h3, hc⟩, hg, hx⟩ := h
  refine ⟨xs, e, ⟨hl, a', c', rfl, h1, h2, h3, fun j u hj => ?_⟩, hg, fun x hm => ⟨rd_keepS (hx x hm).1 hk (fun g o l c e hlt => hs g ((hx x hm).2 g o l c e) hlt), (hx x hm).2⟩⟩
  obtain ⟨g, o, rfl, hce⟩ := hc j u hj
  have hlt := World.block_lt_of_cell? W _ hce
  exact ⟨g, o, rfl, by rw [World.cell?_of_block (w := W) (hk.block g hlt (hs g (hg g o _ _ rfl) hlt))]; exact hce⟩
/-- bytes that are read, in blocks that are 5's -/
def RdX (own : Nat → Nat) (w : World) (v : Value) (ns : List Int) : Prop := Rd w v ns ∧ (0 < ns.length → ∀ g o l c, v = .slice (some ⟨g, o, none⟩) l c → g < w.heap.size ∧ own g = 5)
theorem RdX.sn (h : RdX own w v ns) (s : Sn I own w own' w') (h5 : ¬ I 5) : RdX own' w' v ns := by
  rcases Nat.eq_zero_or_pos ns.length with h0 | h0
  · have e : ns = [] := List.eq_nil_of_length_eq_zero h0
    subst e
    obtain ⟨⟨a', c', e, hl, _⟩, h2⟩ := h.1
    exact ⟨⟨⟨a', c', e, hl, fun j u hj => by simp [bv] at hj⟩, h2⟩, fun e => by simp at e⟩
  · exact ⟨rd_keepS h.1 s.keeps (fun g o l c e _ e' => h5 ((h.2 h0 g o l c e).2 ▸ e')), fun _ g o l c e => ⟨Nat.lt_of_lt_of_le (h.2 h0 g o l c e).1 s.keeps.size, (s.agree g (h.2 h0 g o l c e).1).trans (h.2 h0 g o l c e).2⟩⟩
theorem RdX.new (h : Rd w' v ns) (hn : ∀ g o l c, v = .slice (some ⟨g, o, none⟩) l c → w.heap.size ≤ g) : RdX (give own w.heap.size 5) w' v ns := by
  refine ⟨h, fun h0 g o l c e => ?_⟩
  obtain ⟨b, o', c', e', _, hc⟩ := h.at h0
  rw [e] at e'
  injection e' with e' _ _
  injection e' with e'
  injection e' with e1 e2
  subst e1 e2
  exact ⟨World.block_lt_of_cell? w' _ (hc 0 h0), give_new (hn g o l c e)⟩

/-- the decoder (owners 1, 2), all that the document's was fed (5), the box of the document's (6) -/
structure Fq (A : Nat → Addr) (w0 : World) (own : Nat → Nat) (W : World) (p : Nat) (most : Int) (F : List Int) (fv : Value) (mb : Nat) (bx : Value) : Prop where
  L : Lw A w0 own 1 2 p most (prs most F).rest (prs most F).dead W
  r : RdX own W fv F
  b : CellsO own 6 W mb 31 [.int .i64 most, bx]
theorem Fq.sn {bx : Value} (h : Fq A w0 own W p most F fv mb bx) (s : Sn I own W own' w') (h0 : ¬ I 0) (h1 : ¬ I 1) (h2 : ¬ I 2) (h5 : ¬ I 5) (h6 : ¬ I 6) : Fq A w0 own' w' p most F fv mb bx := ⟨h.L.sn s h0 h1 h2, h.r.sn s h5, h.b.sn s h6⟩
theorem Fq.quiet {bx : Value} (h : Fq A w0 own W p most F fv mb bx) (hk : Keeps Nowhere W w') : Fq A w0 own w' p most F fv mb bx := h.sn (I := fun _ => False) (Sn.same hk) (fun x => x) (fun x => x) (fun x => x) (fun x => x) (fun x => x)
/-- the document has answered: its next in the box nb, its frames -/
structure Fx (A : Nat → Addr) (w0 : World) (own : Nat → Nat) (W : World) (p : Nat) (most : Int) (F : List Int) (mb : Nat) (bx : Value) (F2 : List Int) (fv2 : Value) (nb base : Nat) (wv : Value) (fs : List (List Int × List Int)) : Prop where
  L : Lw A w0 own 1 2 p most (prs most F).rest (prs most F).dead W
  r : RdX own W fv2 F2
  b : CellsO own 6 W mb 31 [.int .i64 most, bx]
  n : CellsO own 6 W nb 31 [.int .i64 most, fv2]
  f : FramesN base W wv fs
  o : ∀ k, base ≤ k → own k ≠ 1
  m : mb < base
theorem Fq.fed {bx wv fv2 : Value} {F2 : List Int} {fs : List (List Int × List Int)} (h : Fq A w0 own W p most F fv mb bx) (hb : Below W.heap.size W w') (hr : Rd w' fv2 F2) (hn : (∀ g o l c, fv2 = .slice (some ⟨g, o, none⟩) l c → W.heap.size ≤ g) ∨ fv2 = fv) (hf : FramesN W.heap.size w' wv fs) :
    Fx A w0 (give (give own W.heap.size 5) w'.heap.size 6) (w'.alloc (.cells #[.int .i64 most, fv2] 31)) p most F mb bx F2 fv2 w'.heap.size W.heap.size wv fs := by
  have k1 : Keeps Nowhere W w' := Keeps.ofBelow hb
  have s1 : Sn (fun _ => False) own W (give own W.heap.size 5) w' := Sn.quiet k1 5
  have k2 : Keeps Nowhere w' (w'.alloc (.cells #[.int .i64 most, fv2] 31)) := (Keeps.refl _ _).alloc _
  have s2 : Sn (fun _ => False) (give own W.heap.size 5) w' (give (give own W.heap.size 5) w'.heap.size 6) (w'.alloc (.cells #[.int .i64 most, fv2] 31)) := Sn.quiet k2 6
  have r1 : RdX (give own W.heap.size 5) w' fv2 F2 := by
    rcases hn with hn | rfl
    · exact RdX.new hr hn
    · refine ⟨hr, fun h0 g o l c e => ?_⟩
      obtain ⟨a1, c1, e1⟩ := hr.shape
      obtain ⟨a2, c2, e2⟩ := h.r.1.shape
      rw [e1] at e2
      injection e2 with _ e3 _
      have h3 := h.r.2 (by omega) g o l c e
      exact ⟨Nat.lt_of_lt_of_le h3.1 k1.size, (give_old h3.1).trans h3.2⟩
  refine ⟨(h.L.sn s1 (fun x => x) (fun x => x) (fun x => x)).sn s2 (fun x => x) (fun x => x) (fun x => x), r1.sn s2 (fun x => x), (h.b.sn s1 (fun x => x)).sn s2 (fun x => x), ⟨Cells.new w' _ _, give_new (Nat.le_refl _)⟩, hf.later k2.bel, fun k hk => ?_, h.b.1.lt⟩
  rcases Nat.lt_or_ge k w'.heap.size with h1 | h1
  · rw [give_old h1, give_new hk]; decide
  · rw [give_new h1]; decide
/-- a copy of the piece, new memory (3) -/
theorem Fx.copy {bx wv fv2 : Value} {fs : List (List Int × List Int)} (h : Fx A w0 own W p most F mb bx F2 fv2 nb base wv fs) (hk : Keeps Nowhere W w') : Fx A w0 (give own W.heap.size 3) w' p most F mb bx F2 fv2 nb base wv fs := by
  have s1 : Sn (fun _ => False) own W (give own W.heap.size 3) w' := Sn.quiet hk 3
  refine ⟨h.L.sn s1 (fun x => x) (fun x => x) (fun x => x), h.r.sn s1 (fun x => x), h.b.sn s1 (fun x => x), h.n.sn s1 (fun x => x), h.f.later hk.bel, fun k hk => ?_, h.m⟩
  rcases Nat.lt_or_ge k W.heap.size with h1 | h1
  · rw [give_old h1]; exact h.o k hk
  · rw [give_new h1]; decide
/-- the program has answered too -/
structure Fy (A : Nat → Addr) (w0 : World) (own : Nat → Nat) (W : World) (p : Nat) (most : Int) (mb : Nat) (bx : Value) (F2 : List Int) (fv2 : Value) (base : Nat) (wv gv ev : Value) (fs : List (List Int × List Int)) : Prop where
  q : Fq A w0 own W p most F2 fv2 mb bx
  f : FramesN base W wv fs
  g : FramesO own 2 W gv fs
  e : ErrS A own 2 W most ev (prs most F2).dead
  m : mb < base
theorem Fx.got {bx wv fv2 gv ev : Value} {B : List Int} (h : Fx A w0 own W p most F mb bx (fedN most F B) fv2 nb base wv (stepO most F B).fs) (X : Fed A w0 own 1 2 W p most (feedO most (prs most F).rest (prs most F).dead B) own2 w' gv ev) :
    Fy A w0 own2 w' p most mb bx (fedN most F B) fv2 base wv gv ev (stepO most F B).fs ∧ CellsO own2 6 w' nb 31 [.int .i64 most, fv2] := by
  have s : Sn (fun k => k = 1) own W own2 w' := ⟨X.ext, X.K⟩
  obtain ⟨e1, e2⟩ := prs_next (most := most) F B
  refine ⟨⟨⟨⟨X.G, ?_⟩, h.r.sn s (by decide), h.b.sn s (by decide)⟩, h.f.keepS X.K (fun g hg _ e => h.o g hg e), X.F, ?_, h.m⟩, h.n.sn s (by decide)⟩
  · rw [e1, e2]; exact X.D
  · rw [e2]; exact X.E
theorem Fy.quiet {bx wv fv2 gv : Value} (h : Fy A w0 own W p most mb bx F2 fv2 base wv gv ev fs) (hk : Keeps Nowhere W w') : Fy A w0 own w' p most mb bx F2 fv2 base wv gv ev fs := ⟨h.q.quiet hk, h.f.later hk.bel, h.g.quiet hk, h.e.quiet hk, h.m⟩
theorem Fy.step {bx wv fv2 gv : Value} (h : Fy A w0 own W p most mb bx F2 fv2 base wv gv ev fs) (hk : Keeps Nowhere W w') (r : Nat) : Fy A w0 (give own W.heap.size r) w' p most mb bx F2 fv2 base wv gv ev fs := by
  have s : Sn (fun _ => False) own W (give own W.heap.size r) w' := Sn.quiet hk r
  exact ⟨h.q.sn s (fun x => x) (fun x => x) (fun x => x) (fun x => x) (fun x => x), h.f.later hk.bel, h.g.sn s (fun x => x), h.e.sn s (fun x => x), h.m⟩
/-- m = now -/
theorem Fy.write {bx wv fv2 gv : Value} (h : Fy A w0 own W p most mb bx F2 fv2 base wv gv ev fs) : Fy A w0 own ((W.setCell ⟨mb, 0, none⟩ (.int .i64 most)).setCell ⟨mb, 1, none⟩ fv2) p most mb fv2 F2 fv2 base wv gv ev fs := by
  have s : Sn (fun k => k = 6) own W own ((W.setCell ⟨mb, 0, none⟩ (.int .i64 most)).setCell ⟨mb, 1, none⟩ fv2) := ⟨fun _ _ => rfl, ((Keeps.refl _ _).setCell _ _ (fun _ => h.q.b.2)).setCell _ _ (fun _ => h.q.b.2)⟩
  have k : Keeps (fun k => k = mb) W ((W.setCell ⟨mb, 0, none⟩ (.int .i64 most)).setCell ⟨mb, 1, none⟩ fv2) := ((Keeps.refl (fun k => k = mb) W).setCell ⟨mb, 0, none⟩ (.int .i64 most) (fun _ => rfl)).setCell ⟨mb, 1, none⟩ fv2 (fun _ => rfl)
  exact ⟨⟨h.q.L.sn s (by decide) (by decide) (by decide), h.q.r.sn s (by decide), ⟨(h.q.b.1.setCell 0 (.int .i64 most)).setCell 1 fv2, h.q.b.2⟩⟩, h.f.keepS k (fun g hg _ e => by have := h.m; omega), h.g.sn s (by decide), h.e.sn s (by decide), h.m⟩
/-- what Say told, in its box tb -/
structure Ft (A : Nat → Addr) (w0 : World) (own : Nat → Nat) (W : World) (p : Nat) (most : Int) (mb : Nat) (F2 : List Int) (fv2 : Value) (base : Nat) (wv gv ev : Value) (fs : List (List Int × List Int)) (tb : Nat) (t0 t1 : Value) (cd sm : Int) : Prop where
  y : Fy A w0 own W p most mb fv2 F2 fv2 base wv gv ev fs
  t : CellsO own 6 W tb 57 [t0, t1, .int .i64 cd, .int .u32 sm]
theorem Ft.quiet {wv fv2 gv t0 t1 : Value} {tb : Nat} {cd sm : Int} (h : Ft A w0 own W p most mb F2 fv2 base wv gv ev fs tb t0 t1 cd sm) (hk : Keeps Nowhere W w') : Ft A w0 own w' p most mb F2 fv2 base wv gv ev fs tb t0 t1 cd sm := ⟨h.y.quiet hk, h.t.sn (I := fun _ => False) (Sn.same hk) (fun x => x)⟩
theorem Fy.told {wv fv2 gv : Value} (h : Fy A w0 own W p most mb fv2 F2 fv2 base wv gv ev fs) (hb : Below W.heap.size W w') (t0 t1 : Value) (cd sm : Int) :
    Ft A w0 (give (give own W.heap.size 5) w'.heap.size 6) (w'.alloc (.cells #[t0, t1, .int .i64 cd, .int .u32 sm] 57)) p most mb F2 fv2 base wv gv ev fs w'.heap.size t0 t1 cd sm :=
  ⟨(h.step (Keeps.ofBelow hb) 5).step ((Keeps.refl _ _).alloc _) 6, ⟨Cells.new w' _ _, give_new (Nat.le_refl _)⟩⟩
theorem Ft.cells {wv fv2 gv t0 t1 : Value} {tb : Nat} {cd sm : Int} (h : Aside (Ft A w0 own W p most mb F2 fv2 base wv gv ev fs tb t0 t1 cd sm)) : W.cell? ⟨mb, 0, none⟩ = some (.int .i64 most) ∧ W.cell? ⟨mb, 1, none⟩ = some fv2 ∧ W.cell? ⟨tb, 2, none⟩ = some (.int .i64 cd) ∧ W.cell? ⟨tb, 3, none⟩ = some (.int .u32 sm) :=
  ⟨by rw [h.it.y.q.b.1.cell]; rfl, by rw [h.it.y.q.b.1.cell]; rfl, by rw [h.it.t.1.cell]; rfl, by rw [h.it.t.1.cell]; rfl⟩
section
variable {wv fv2 gv t0 t1 : Value} {tb : Nat} {cd sm : Int}
theorem ft_held (h : Aside (Ft A w0 own W p most mb F2 fv2 base wv gv ev fs tb t0 t1 cd sm)) (n : Nat) (hn : heldS (prs most F2).rest (prs most F2).dead = n) : Calls Tryd.prog 10 #[dPtr p] W fun e w' => e = .returned (.int .i64 n) ∧ Aside (Ft A w0 own w' p most mb F2 fv2 base wv gv ev fs tb t0 t1 cd sm) := by
  refine (held_l ⟨h.it.y.q.L⟩ n hn).mono ?_
  rintro e w' ⟨rfl, _, K⟩
  exact ⟨rfl, ⟨h.it.quiet K.it⟩⟩
theorem ft_wants (h : Aside (Ft A w0 own W p most mb F2 fv2 base wv gv ev fs tb t0 t1 cd sm)) (n : Nat) (hn : wantsS (prs most F2).rest (prs most F2).dead = n) : Calls Tryd.prog 12 #[dPtr p] W fun e w' => e = .returned (.int .i64 n) ∧ Aside (Ft A w0 own w' p most mb F2 fv2 base wv gv ev fs tb t0 t1 cd sm) := by
  refine (wants_l ⟨h.it.y.q.L⟩ n hn).mono ?_
  rintro e w' ⟨rfl, _, K⟩
  exact ⟨rfl, ⟨h.it.quiet K.it⟩⟩
theorem ft_err (h : Aside (Ft A w0 own W p most mb F2 fv2 base wv gv ev fs tb t0 t1 cd sm)) : Calls Tryd.prog 17 #[dPtr p] W fun e w' => ∃ ev2, e = .returned ev2 ∧ Aside (Ft A w0 own w' p most mb F2 fv2 base wv gv ev2 fs tb t0 t1 cd sm) := by
  refine (err_l ⟨h.it.y.q.L⟩).mono ?_
  rintro e w' ⟨ev2, rfl, E, _, K⟩
  have h' := h.it.quiet K.it
  exact ⟨ev2, rfl, ⟨⟨h'.y.q, h'.y.f, h'.y.g, E.it, h'.y.m⟩, h'.t⟩⟩
theorem ft_same (h : Aside (Ft A w0 own W p most mb F2 fv2 base wv gv ev fs tb t0 t1 cd sm)) (hn : fs.length ≤ 1099511627776) : Calls Tryd.prog 9 #[gv, wv] W fun e w' => e = .returned (.bool true) ∧ Aside (Ft A w0 own w' p most mb F2 fv2 base wv gv ev fs tb t0 t1 cd sm) := by
  refine (sameFrames_eq gv wv fs h.it.y.g.reads h.it.y.f.r hn).mono ?_
  rintro e w' ⟨rfl, K⟩
  exact ⟨rfl, ⟨h.it.quiet K⟩⟩
theorem ft_rheld {q : Option Addr} {l c : Nat} (hf : fv2 = .slice q l c) (h : Aside (Ft A w0 own W p most mb F2 fv2 base wv gv ev fs tb t0 t1 cd sm)) (hb : AreBytes F2) (hL : F2.length ≤ 16777216) (n : Nat) (hn : heldS (prs most F2).rest (prs most F2).dead = n) : Calls Tryd.prog 11 #[.agg #[.int .i64 most, .slice q l c]] W fun e w' => e = .returned (.int .i64 n) ∧ Aside (Ft A w0 own w' p most mb F2 fv2 base wv gv ev fs tb t0 t1 cd sm) := by
  subst hf
  refine (refHeld q l c h.it.y.q.r.1 hb hL).mono ?_
  rintro e w' ⟨rfl, K⟩
  exact ⟨by rw [← hn]; rfl, ⟨h.it.quiet (Keeps.ofBelow K.it)⟩⟩
theorem ft_rwants {q : Option Addr} {l c : Nat} (hf : fv2 = .slice q l c) (h : Aside (Ft A w0 own W p most mb F2 fv2 base wv gv ev fs tb t0 t1 cd sm)) (hb : AreBytes F2) (hL : F2.length ≤ 16777216) (hm : most ≠ 0) (n : Nat) (hn : wantsS (prs most F2).rest (prs most F2).dead = n) : Calls Tryd.prog 13 #[.agg #[.int .i64 most, .slice q l c]] W fun e w' => e = .returned (.int .i64 n) ∧ Aside (Ft A w0 own w' p most mb F2 fv2 base wv gv ev fs tb t0 t1 cd sm) := by
  subst hf
  refine (refWants q l c h.it.y.q.r.1 hb hL hm).mono ?_
  rintro e w' ⟨rfl, K⟩
  exact ⟨by rw [← hn], ⟨h.it.quiet (Keeps.ofBelow K.it)⟩⟩
end
end
end Go.Proofs.YtjhjhmhhnifgmaaDoor

/-
  culvertlaw05.FeedAnswers
-/
namespace Go.Proofs.YtjhjhmhhnifgmaaDoor
open Go.RowKit

theorem sum_take (zs : List PcV) (k : Nat) (z : PcV) (h : zs[k]? = some z) : ((zs.take (k + 1)).map (fun z => z.ns.length)).sum = ((zs.take k).map (fun z => z.ns.length)).sum + z.ns.length := by
  rw [List.take_add_one, h]
  simp
theorem sum_take_le (zs : List PcV) (k : Nat) : ((zs.take k).map (fun z => z.ns.length)).sum ≤ (zs.map (fun z => z.ns.length)).sum := by
  have := congrArg (fun l : List PcV => (l.map (fun z => z.ns.length)).sum) (List.take_append_drop k zs)
  simp only [List.map_append, List.sum_append] at this
  omega
theorem pc_cell {w : World} {zs : List PcV} {a : Option Addr} {c k : Nat} {z : PcV} (h : ListAt (PcOk w) 1 w (.slice a zs.length c) zs) (hz : zs[k]? = some z) : ∃ b o, a = some ⟨b, o, none⟩ ∧ w.cell? ⟨b, o + k, none⟩ = some z.sl ∧ Rd w z.sl z.ns ∧ AreBytes z.ns := by
  obtain ⟨a', c', e, _, _, h⟩ := h
  injection e with e1 _ e2
  subst e1
  obtain ⟨b, o, cs, rfl, ⟨rfl, h1, h2⟩, _, hc⟩ := h k z hz
  have := hc 0 (by decide)
  rw [Nat.mul_one, Nat.add_zero] at this
  exact ⟨b, o, rfl, this, h1, h2⟩
theorem rds_own {own : Nat → Nat} {W W7 : World} {x : Value} {ns : List Int} (h : OwnB W7.heap.size W x ns) : RdS (fun k => give own W7.heap.size 3 k = 1) W x ns := by
  have h' : W.ownsRow W7.heap.size 5 1 x (bv ns).length (bv ns) := by rw [bv_length]; exact h
  obtain ⟨⟨a, c, rfl, hl, hc⟩, h2⟩ := owns_reads h'
  refine ⟨⟨a, c, rfl, hl, fun j u hj => ?_⟩, h2⟩
  obtain ⟨y, hy, _, hce⟩ := hc j u hj
  refine ⟨y, hy, fun e => ?_, hce⟩
  have hb := owns_base h' y.block (by rw [hy]; rfl)
  have e' : give own W7.heap.size 3 y.block = 1 := e
  rw [give_new hb] at e'
  cases e'
def natOf : Value → Nat
  | .int _ q => q.toNat
  | _ => 0

end Go.Proofs.YtjhjhmhhnifgmaaDoor

