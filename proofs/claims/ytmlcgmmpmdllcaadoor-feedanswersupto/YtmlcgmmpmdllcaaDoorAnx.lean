import Derived.Test.YtmlcgmmpmdllcaaDoorRfx
import Derived.Test.YtmlcgmmpmdllcaaDoorSnx
import Derived.Test.YtmlcgmmpmdllcaaDoorSameFr
import Derived.Test.YtmlcgmmpmdllcaaDoorOpx
import Derived.Deep.RegionHeld3
/-
  the document's Feed, whether it lives or not; what stands when the decoder is fed
-/
namespace Go.Proofs.YtmlcgmmpmdllcaaDoor
open Go.RowKit

section
variable {w : World} {most : Int} {F : List Int}
/-- all that the document's decoder was fed, up to its death -/
def fedN (most : Int) (F B : List Int) : List Int := match (prs most F).dead with | none => F ++ B | some _ => F
/-- the frames that B makes whole, what is held and whether it died -/
def stepO (most : Int) (F B : List Int) : Out := feedO most (prs most F).rest (prs most F).dead B
theorem prs_next (F B : List Int) : (prs most (fedN most F B)).rest = (stepO most F B).rest ∧ (prs most (fedN most F B)).dead = (stepO most F B).dead := by
  unfold fedN stepO feedO
  cases hd : (prs most F).dead with
  | none =>
    simp only
    have := parse_app (ck := ckH most) (sz := szN) F B hd
    unfold prs
    rw [this]
    exact ⟨rfl, rfl⟩
  | some h =>
    simp only
    exact ⟨(parse_died F h hd).1, hd⟩
theorem fedN_len (F B : List Int) : (fedN most F B).length ≤ F.length + B.length := by
  unfold fedN
  split
  · rw [List.length_append]; omega
  · omega
theorem fedN_bytes {F B : List Int} (h1 : AreBytes F) (h2 : AreBytes B) : AreBytes (fedN most F B) := by
  unfold fedN
  split
  · exact fun x hx => (List.mem_append.1 hx).elim (h1 x) (h2 x)
  · exact h1
theorem refFeed_any (q : Option Addr) (L c : Nat) (R : Rd w (.slice q L c) F) (hb : AreBytes F) (ba : Option Addr) (bl bc : Nat) (B : List Int) (RB : Rd w (.slice ba bl bc) B) (hbb : AreBytes B) (hL : F.length + B.length ≤ 16777216) (hm : most ≠ 0) :
    Calls Tryd.prog 9 #[.agg #[.int .i64 most, .slice q L c], .slice ba bl bc] w fun e w' => ∃ q' L' c' fq' fl' fc', e = .returned (.tuple #[.agg #[.int .i64 most, .slice q' L' c'], .slice fq' fl' fc', .int .i64 (codeS most (stepO most F B).dead)]) ∧ Aside (Rd w' (.slice q' L' c') (fedN most F B) ∧ ((∀ g o l c, Value.slice q' L' c' = .slice (some ⟨g, o, none⟩) l c → w.heap.size ≤ g) ∨ Value.slice q' L' c' = .slice q L c)) ∧ Aside (FramesN w.heap.size w' (.slice fq' fl' fc') (stepO most F B).fs) ∧ Aside (Below w.heap.size w w') := by
  cases hd : (prs most F).dead with
  | none =>
    refine (refFeed_live q L c R hb ba bl bc B RB hbb hL hm hd).mono ?_
    rintro e w' ⟨q', L', c', fq', fl', fc', rfl, X1, X2, X3⟩
    have e1 : fedN most F B = F ++ B := by unfold fedN; rw [hd]
    have e2 := parse_app (ck := ckH most) (sz := szN) F B hd
    have e3 : stepO most F B = prs most ((prs most F).rest ++ B) := by unfold stepO feedO; rw [hd]
    have e4 : (prs most (F ++ B)).dead = (stepO most F B).dead := by rw [e3]; unfold prs; rw [e2]
    have e5 : (prs most (F ++ B)).fs.drop (prs most F).fs.length = (stepO most F B).fs := by rw [e3]; unfold prs; rw [e2]; simp
    rw [e4, e1]
    exact ⟨q', L', c', fq', fl', fc', rfl, ⟨X1.it.1, .inl X1.it.2⟩, ⟨by rw [← e5]; exact X2.it⟩, X3⟩
  | some h =>
    refine (refFeed_dead q L c R hb (by omega) hm h hd _).mono ?_
    rintro e w' ⟨rfl, X3⟩
    have e1 : fedN most F B = F := by unfold fedN; rw [hd]
    have e3 : stepO most F B = ⟨[], [], some h⟩ := by unfold stepO feedO; rw [hd]
    rw [e1, e3]
    exact ⟨q, L, c, none, 0, 0, rfl, ⟨R.later X3.it, .inr rfl⟩, ⟨[], rfl, ⟨rfl, none, 0, rfl, Nat.le_refl _, Nat.zero_le _, fun _ => rfl, fun j u hj => by simp [fcells] at hj⟩, fun g o l c e => (by cases e), fun x hx => (by cases hx)⟩, X3⟩
end
end Go.Proofs.YtmlcgmmpmdllcaaDoor

/-
  FeedAnswers' world
-/
namespace Go.Proofs.YtmlcgmmpmdllcaaDoor
open Go.RowKit

section
variable {A : Nat → Addr} {w0 w w' W : World} {own own' own2 : Nat → Nat} {I : Nat → Prop} {i j p mb nb base : Nat} {most : Int} {hs F F2 ns : List Int} {dead : Option (List Int)} {v fv ev : Value} {fs : List (List Int × List Int)}

theorem Gr.sn (h : Gr A w0 own w) (s : Sn I own w own' w') (h0 : ¬ I 0) : Gr A w0 own' w' := ⟨h.b, h.g.sn s h0⟩
theorem VioAt.sn {h : List Int} {vb : Nat} (hv : VioAt A own j w most h vb) (s : Sn I own w own' w') (hj : ¬ I j) : VioAt A own' j w' most h vb := by
  obtain ⟨a, k, b, c, d, e⟩ := hv
  exact ⟨(s.agree vb e.lt).trans a, k, b, c, d, e.later s.keeps (fun e' => hj (a ▸ e'))⟩
theorem DecS.sn (D : DecS A own i j w p most hs dead) (s : Sn I own w own' w') (hi : ¬ I i) (hj : ¬ I j) : DecS A own' i j w' p most hs dead := by
  cases dead with
  | none =>
    obtain ⟨⟨g, ⟨hp, ⟨hv, ⟨c, r⟩, ho⟩, hb, hg'⟩, hg⟩, l⟩ := D
    exact ⟨⟨g, ⟨(s.agree p c.lt).trans hp, ⟨hv, ⟨c.later s.keeps (fun e => hi (hp ▸ e)), owns_later r s.keeps (fun b hb' e => hi (ho b hb' ▸ e))⟩, fun k hk => (s.agree k (owns_lt r k hk)).trans (ho k hk)⟩, hb, hg'⟩, hg⟩, l⟩
  | some h =>
    obtain ⟨vb, a, ⟨g, c⟩, v⟩ := D
    exact ⟨vb, (s.agree p c.lt).trans a, ⟨g, c.later s.keeps (fun e => hi (a ▸ e))⟩, v.sn s hj⟩
theorem Lw.sn (h : Lw A w0 own i j p most hs dead w) (s : Sn I own w own' w') (h0 : ¬ I 0) (hi : ¬ I i) (hj : ¬ I j) : Lw A w0 own' i j p most hs dead w' := ⟨h.G.sn s h0, h.D.sn s hi hj⟩
theorem ErrS.sn (E : ErrS A own j w most ev dead) (s : Sn I own w own' w') (hj : ¬ I j) : ErrS A own' j w' most ev dead := by
  cases dead with
  | none => exact E
  | some h => obtain ⟨vb, e, hv⟩ := E; exact ⟨vb, e, hv.sn s hj⟩
theorem FramesO.sn (h : FramesO own j w fv fs) (s : Sn I own w own' w') (hj : ¬ I j) : FramesO own' j w' fv fs := by
  obtain ⟨xs, f1, f2, f3, f4⟩ := h
  exact ⟨xs, f1, owns_later f2 s.keeps (fun b hb e => hj (f3 b hb ▸ e)), fun k hk => (s.agree k (owns_lt f2 k hk)).trans (f3 k hk), fun x hx => ⟨owns_later (f4 x hx).1 s.keeps (fun b hb e => hj ((f4 x hx).2 b hb ▸ e)), fun k hk => (s.agree k (owns_lt (f4 x hx).1 k hk)).trans ((f4 x hx).2 k hk)⟩⟩
theorem rd_keepS {S : Nat → Prop} (h : Rd W v ns) (hk : Keeps S W w') (hs : ∀ g o l c, v = .slice (some ⟨g, o, none⟩) l c → g < W.heap.size → ¬ S g) : Rd w' v ns := by
  obtain ⟨⟨a', c', rfl, hl, hc⟩, hn⟩ := id h
  refine ⟨⟨a', c', rfl, hl, fun j u hj => ?_⟩, hn⟩
  obtain ⟨x, hx, hno, hce⟩ := hc j u hj
  have hlen : 0 < ns.length := by
    have := (List.getElem?_eq_some_iff.1 hj).1
    rw [bv_length] at this
    omega
  obtain ⟨sb, so, c2, e2, _⟩ := h.at hlen
  injection e2 with e2 e3 e4
  rw [hx] at e2
  injection e2 with e2
  subst e2
  refine ⟨_, hx, fun x => x, ?_⟩
  rw [add_none] at hce ⊢
  have hlt := World.block_lt_of_cell? W _ hce
  rw [World.cell?_of_block (w := W) (hk.block sb hlt (hs sb so _ _ (by rw [hx]) hlt))]
  exact hce
theorem FramesN.keepS {S : Nat → Prop} (h : FramesN base W v fs) (hk : Keeps S W w') (hs : ∀ g, base ≤ g → g < W.heap.size → ¬ S g) : FramesN base w' v fs := by
  obtain ⟨xs, e, ⟨hl, a', c', rfl, h1, h2, h3, hc⟩, hg, hx⟩ := h
  refine ⟨xs, e, ⟨hl, a', c', rfl, h1, h2, h3, fun j u hj => ?_⟩, hg, fun x hm => ⟨rd_keepS (hx x hm).1 hk (fun g o l c e hlt => hs g ((hx x hm).2 g o l c e) hlt), (hx x hm).2⟩⟩
  obtain ⟨g, o, rfl, hce⟩ := hc j u hj
  have hlt := World.block_lt_of_cell? W _ hce
  exact ⟨g, o, rfl, by rw [World.cell?_of_block (w := W) (hk.block g hlt (hs g (hg g o _ _ rfl) hlt))]; exact hce⟩
/-- bytes that are read, in blocks that are 5's -/
def RdX (own : Nat → Nat) (w : World) (v : Value) (ns : List Int) : Prop := Rd w v ns ∧ (0 < ns.length → ∀ g o l c, v = .slice (some ⟨g, o, none⟩) l c → g < w.heap.size ∧ own g = 5)
theorem RdX.sn (h : RdX own w v ns) (s : Sn I own w own' w') (h5 : ¬ I 5) : RdX own' w' v ns := by
  rcases Nat.eq_zero_or_pos ns.length with h0 | h0
  · have e : ns = [] := List.eq_nil_of_length_eq_zero h0
    subst e
    obtain ⟨⟨a', c', e, hl, _⟩, h2⟩ := h.1
    exact ⟨⟨⟨a', c', e, hl, fun j u hj => by simp [bv] at hj⟩, h2⟩, fun e => by simp at e⟩
  · exact ⟨rd_keepS h.1 s.keeps (fun g o l c e _ e' => h5 ((h.2 h0 g o l c e).2 ▸ e')), fun _ g o l c e => ⟨Nat.lt_of_lt_of_le (h.2 h0 g o l c e).1 s.keeps.size, (s.agree g (h.2 h0 g o l c e).1).trans (h.2 h0 g o l c e).2⟩⟩
theorem RdX.new (h : Rd w' v ns) (hn : ∀ g o l c, v = .slice (some ⟨g, o, none⟩) l c → w.heap.size ≤ g) : RdX (give own w.heap.size 5) w' v ns := by
  refine ⟨h, fun h0 g o l c e => ?_⟩
  obtain ⟨b, o', c', e', _, hc⟩ := h.at h0
  rw [e] at e'
  injection e' with e' _ _
  injection e' with e'
  injection e' with e1 e2
  subst e1 e2
  exact ⟨World.block_lt_of_cell? w' _ (hc 0 h0), give_new (hn g o l c e)⟩

/-- the decoder (owners 1, 2), all that the document's was fed (5), the box of the document's (6) -/
structure Fq (A : Nat → Addr) (w0 : World) (own : Nat → Nat) (W : World) (p : Nat) (most : Int) (F : List Int) (fv : Value) (mb : Nat) (bx : Value) : Prop where
  L : Lw A w0 own 1 2 p most (prs most F).rest (prs most F).dead W
  r : RdX own W fv F
  b : CellsO own 6 W mb 31 [.int .i64 most, bx]
theorem Fq.sn {bx : Value} (h : Fq A w0 own W p most F fv mb bx) (s : Sn I own W own' w') (h0 : ¬ I 0) (h1 : ¬ I 1) (h2 : ¬ I 2) (h5 : ¬ I 5) (h6 : ¬ I 6) : Fq A w0 own' w' p most F fv mb bx := ⟨h.L.sn s h0 h1 h2, h.r.sn s h5, h.b.sn s h6⟩
theorem Fq.quiet {bx : Value} (h : Fq A w0 own W p most F fv mb bx) (hk : Keeps Nowhere W w') : Fq A w0 own w' p most F fv mb bx := h.sn (I := fun _ => False) (Sn.same hk) (fun x => x) (fun x => x) (fun x => x) (fun x => x) (fun x => x)
/-- the document has answered: its next in the box nb, its frames -/
structure Fx (A : Nat → Addr) (w0 : World) (own : Nat → Nat) (W : World) (p : Nat) (most : Int) (F : List Int) (mb : Nat) (bx : Value) (F2 : List Int) (fv2 : Value) (nb base : Nat) (wv : Value) (fs : List (List Int × List Int)) : Prop where
  L : Lw A w0 own 1 2 p most (prs most F).rest (prs most F).dead W
  r : RdX own W fv2 F2
  b : CellsO own 6 W mb 31 [.int .i64 most, bx]
  n : CellsO own 6 W nb 31 [.int .i64 most, fv2]
  f : FramesN base W wv fs
  o : ∀ k, base ≤ k → own k ≠ 1
  m : mb < base
theorem Fq.fed {bx wv fv2 : Value} {F2 : List Int} {fs : List (List Int × List Int)} (h : Fq A w0 own W p most F fv mb bx) (hb : Below W.heap.size W w') (hr : Rd w' fv2 F2) (hn : (∀ g o l c, fv2 = .slice (some ⟨g, o, none⟩) l c → W.heap.size ≤ g) ∨ fv2 = fv) (hf : FramesN W.heap.size w' wv fs) :
    Fx A w0 (give (give own W.heap.size 5) w'.heap.size 6) (w'.alloc (.cells #[.int .i64 most, fv2] 31)) p most F mb bx F2 fv2 w'.heap.size W.heap.size wv fs := by
  have k1 : Keeps Nowhere W w' := Keeps.ofBelow hb
  have s1 : Sn (fun _ => False) own W (give own W.heap.size 5) w' := Sn.quiet k1 5
  have k2 : Keeps Nowhere w' (w'.alloc (.cells #[.int .i64 most, fv2] 31)) := (Keeps.refl _ _).alloc _
  have s2 : Sn (fun _ => False) (give own W.heap.size 5) w' (give (give own W.heap.size 5) w'.heap.size 6) (w'.alloc (.cells #[.int .i64 most, fv2] 31)) := Sn.quiet k2 6
  have r1 : RdX (give own W.heap.size 5) w' fv2 F2 := by
    rcases hn with hn | rfl
    · exact RdX.new hr hn
    · refine ⟨hr, fun h0 g o l c e => ?_⟩
      obtain ⟨a1, c1, e1⟩ := hr.shape
      obtain ⟨a2, c2, e2⟩ := h.r.1.shape
      rw [e1] at e2
      injection e2 with _ e3 _
      have h3 := h.r.2 (by omega) g o l c e
      exact ⟨Nat.lt_of_lt_of_le h3.1 k1.size, (give_old h3.1).trans h3.2⟩
  refine ⟨(h.L.sn s1 (fun x => x) (fun x => x) (fun x => x)).sn s2 (fun x => x) (fun x => x) (fun x => x), r1.sn s2 (fun x => x), (h.b.sn s1 (fun x => x)).sn s2 (fun x => x), ⟨Cells.new w' _ _, give_new (Nat.le_refl _)⟩, hf.later k2.bel, fun k hk => ?_, h.b.1.lt⟩
  rcases Nat.lt_or_ge k w'.heap.size with h1 | h1
  · rw [give_old h1, give_new hk]; decide
  · rw [give_new h1]; decide
/-- a copy of the piece, new memory (3) -/
theorem Fx.copy {bx wv fv2 : Value} {fs : List (List Int × List Int)} (h : Fx A w0 own W p most F mb bx F2 fv2 nb base wv fs) (hk : Keeps Nowhere W w') : Fx A w0 (give own W.heap.size 3) w' p most F mb bx F2 fv2 nb base wv fs := by
  have s1 : Sn (fun _ => False) own W (give own W.heap.size 3) w' := Sn.quiet hk 3
  refine ⟨h.L.sn s1 (fun x => x) (fun x => x) (fun x => x), h.r.sn s1 (fun x => x), h.b.sn s1 (fun x => x), h.n.sn s1 (fun x => x), h.f.later hk.bel, fun k hk => ?_, h.m⟩
  rcases Nat.lt_or_ge k W.heap.size with h1 | h1
  · rw [give_old h1]; exact h.o k hk
  · rw [give_new h1]; decide
/-- the program has answered too -/
structure Fy (A : Nat → Addr) (w0 : World) (own : Nat → Nat) (W : World) (p : Nat) (most : Int) (mb : Nat) (bx : Value) (F2 : List Int) (fv2 : Value) (base : Nat) (wv gv ev : Value) (fs : List (List Int × List Int)) : Prop where
  q : Fq A w0 own W p most F2 fv2 mb bx
  f : FramesN base W wv fs
  g : FramesO own 2 W gv fs
  e : ErrS A own 2 W most ev (prs most F2).dead
  m : mb < base
theorem Fx.got {bx wv fv2 gv ev : Value} {B : List Int} (h : Fx A w0 own W p most F mb bx (fedN most F B) fv2 nb base wv (stepO most F B).fs) (X : Fed A w0 own 1 2 W p most (feedO most (prs most F).rest (prs most F).dead B) own2 w' gv ev) :
    Fy A w0 own2 w' p most mb bx (fedN most F B) fv2 base wv gv ev (stepO most F B).fs ∧ CellsO own2 6 w' nb 31 [.int .i64 most, fv2] := by
  have s : Sn (fun k => k = 1) own W own2 w' := ⟨X.ext, X.K⟩
  obtain ⟨e1, e2⟩ := prs_next (most := most) F B
  refine ⟨⟨⟨⟨X.G, ?_⟩, h.r.sn s (by decide), h.b.sn s (by decide)⟩, h.f.keepS X.K (fun g hg _ e => h.o g hg e), X.F, ?_, h.m⟩, h.n.sn s (by decide)⟩
  · rw [e1, e2]; exact X.D
  · rw [e2]; exact X.E
theorem Fy.quiet {bx wv fv2 gv : Value} (h : Fy A w0 own W p most mb bx F2 fv2 base wv gv ev fs) (hk : Keeps Nowhere W w') : Fy A w0 own w' p most mb bx F2 fv2 base wv gv ev fs := ⟨h.q.quiet hk, h.f.later hk.bel, h.g.quiet hk, h.e.quiet hk, h.m⟩
theorem Fy.step {bx wv fv2 gv : Value} (h : Fy A w0 own W p most mb bx F2 fv2 base wv gv ev fs) (hk : Keeps Nowhere W w') (r : Nat) : Fy A w0 (give own W.heap.size r) w' p most mb bx F2 fv2 base wv gv ev fs := by
  have s : Sn (fun _ => False) own W (give own W.heap.size r) w' := Sn.quiet hk r
  exact ⟨h.q.sn s (fun x => x) (fun x => x) (fun x => x) (fun x => x) (fun x => x), h.f.later hk.bel, h.g.sn s (fun x => x), h.e.sn s (fun x => x), h.m⟩
/-- m = now -/
theorem Fy.write {bx wv fv2 gv : Value} (h : Fy A w0 own W p most mb bx F2 fv2 base wv gv ev fs) : Fy A w0 own ((W.setCell ⟨mb, 0, none⟩ (.int .i64 most)).setCell ⟨mb, 1, none⟩ fv2) p most mb fv2 F2 fv2 base wv gv ev fs := by
  have s : Sn (fun k => k = 6) own W own ((W.setCell ⟨mb, 0, none⟩ (.int .i64 most)).setCell ⟨mb, 1, none⟩ fv2) := ⟨fun _ _ => rfl, ((Keeps.refl _ _).setCell _ _ (fun _ => h.q.b.2)).setCell _ _ (fun _ => h.q.b.2)⟩
  have k : Keeps (fun k => k = mb) W ((W.setCell ⟨mb, 0, none⟩ (.int .i64 most)).setCell ⟨mb, 1, none⟩ fv2) := ((Keeps.refl (fun k => k = mb) W).setCell ⟨mb, 0, none⟩ (.int .i64 most) (fun _ => rfl)).setCell ⟨mb, 1, none⟩ fv2 (fun _ => rfl)
  exact ⟨⟨h.q.L.sn s (by decide) (by decide) (by decide), h.q.r.sn s (by decide), ⟨(h.q.b.1.setCell 0 (.int .i64 most)).setCell 1 fv2, h.q.b.2⟩⟩, h.f.keepS k (fun g hg _ e => by have := h.m; omega), h.g.sn s (by decide), h.e.sn s (by decide), h.m⟩
/-- what Say told, in its box tb -/
structure Ft (A : Nat → Addr) (w0 : World) (own : Nat → Nat) (W : World) (p : Nat) (most : Int) (mb : Nat) (F2 : List Int) (fv2 : Value) (base : Nat) (wv gv ev : Value) (fs : List (List Int × List Int)) (tb : Nat) (t0 t1 : Value) (cd sm : Int) : Prop where
  y : Fy A w0 own W p most mb fv2 F2 fv2 base wv gv ev fs
  t : CellsO own 6 W tb 42 [t0, t1, .int .i64 cd, .int .u32 sm]
theorem Ft.quiet {wv fv2 gv t0 t1 : Value} {tb : Nat} {cd sm : Int} (h : Ft A w0 own W p most mb F2 fv2 base wv gv ev fs tb t0 t1 cd sm) (hk : Keeps Nowhere W w') : Ft A w0 own w' p most mb F2 fv2 base wv gv ev fs tb t0 t1 cd sm := ⟨h.y.quiet hk, h.t.sn (I := fun _ => False) (Sn.same hk) (fun x => x)⟩
theorem Fy.told {wv fv2 gv : Value} (h : Fy A w0 own W p most mb fv2 F2 fv2 base wv gv ev fs) (hb : Below W.heap.size W w') (t0 t1 : Value) (cd sm : Int) :
    Ft A w0 (give (give own W.heap.size 5) w'.heap.size 6) (w'.alloc (.cells #[t0, t1, .int .i64 cd, .int .u32 sm] 42)) p most mb F2 fv2 base wv gv ev fs w'.heap.size t0 t1 cd sm :=
  ⟨(h.step (Keeps.ofBelow hb) 5).step ((Keeps.refl _ _).alloc _) 6, ⟨Cells.new w' _ _, give_new (Nat.le_refl _)⟩⟩
theorem Ft.cells {wv fv2 gv t0 t1 : Value} {tb : Nat} {cd sm : Int} (h : Aside (Ft A w0 own W p most mb F2 fv2 base wv gv ev fs tb t0 t1 cd sm)) : W.cell? ⟨mb, 0, none⟩ = some (.int .i64 most) ∧ W.cell? ⟨mb, 1, none⟩ = some fv2 ∧ W.cell? ⟨tb, 2, none⟩ = some (.int .i64 cd) ∧ W.cell? ⟨tb, 3, none⟩ = some (.int .u32 sm) :=
  ⟨by rw [h.it.y.q.b.1.cell]; rfl, by rw [h.it.y.q.b.1.cell]; rfl, by rw [h.it.t.1.cell]; rfl, by rw [h.it.t.1.cell]; rfl⟩
section
variable {wv fv2 gv t0 t1 : Value} {tb : Nat} {cd sm : Int}
theorem ft_held (h : Aside (Ft A w0 own W p most mb F2 fv2 base wv gv ev fs tb t0 t1 cd sm)) (n : Nat) (hn : heldS (prs most F2).rest (prs most F2).dead = n) : Calls Tryd.prog 14 #[dPtr p] W fun e w' => e = .returned (.int .i64 n) ∧ Aside (Ft A w0 own w' p most mb F2 fv2 base wv gv ev fs tb t0 t1 cd sm) := by
  refine (held_l ⟨h.it.y.q.L⟩ n hn).mono ?_
  rintro e w' ⟨rfl, _, K⟩
  exact ⟨rfl, ⟨h.it.quiet K.it⟩⟩
theorem ft_wants (h : Aside (Ft A w0 own W p most mb F2 fv2 base wv gv ev fs tb t0 t1 cd sm)) (n : Nat) (hn : wantsS (prs most F2).rest (prs most F2).dead = n) : Calls Tryd.prog 16 #[dPtr p] W fun e w' => e = .returned (.int .i64 n) ∧ Aside (Ft A w0 own w' p most mb F2 fv2 base wv gv ev fs tb t0 t1 cd sm) := by
  refine (wants_l ⟨h.it.y.q.L⟩ n hn).mono ?_
  rintro e w' ⟨rfl, _, K⟩
  exact ⟨rfl, ⟨h.it.quiet K.it⟩⟩
theorem ft_err (h : Aside (Ft A w0 own W p most mb F2 fv2 base wv gv ev fs tb t0 t1 cd sm)) : Calls Tryd.prog 18 #[dPtr p] W fun e w' => ∃ ev2, e = .returned ev2 ∧ Aside (Ft A w0 own w' p most mb F2 fv2 base wv gv ev2 fs tb t0 t1 cd sm) := by
  refine (err_l ⟨h.it.y.q.L⟩).mono ?_
  rintro e w' ⟨ev2, rfl, E, _, K⟩
  have h' := h.it.quiet K.it
  exact ⟨ev2, rfl, ⟨⟨h'.y.q, h'.y.f, h'.y.g, E.it, h'.y.m⟩, h'.t⟩⟩
theorem ft_fails (h : Aside (Ft A w0 own W p most mb F2 fv2 base wv gv ev fs tb t0 t1 cd sm)) (hc : codeS most (prs most F2).dead = cd) (hs : strmS (prs most F2).dead = sm) : Calls Tryd.prog 13 #[ev, .int .i64 cd, .int .u32 sm] W fun e w' => e = .returned (.bool true) ∧ Aside (Ft A w0 own w' p most mb F2 fv2 base wv gv ev fs tb t0 t1 cd sm) := by
  refine (fails_l ⟨h.it.y.q.L⟩ ⟨h.it.y.e⟩ cd sm hc hs).mono ?_
  rintro e w' ⟨rfl, _, _, K⟩
  exact ⟨rfl, ⟨h.it.quiet K.it⟩⟩
theorem ft_same (h : Aside (Ft A w0 own W p most mb F2 fv2 base wv gv ev fs tb t0 t1 cd sm)) (hn : fs.length ≤ 1099511627776) : Calls Tryd.prog 12 #[gv, wv] W fun e w' => e = .returned (.bool true) ∧ Aside (Ft A w0 own w' p most mb F2 fv2 base wv gv ev fs tb t0 t1 cd sm) := by
  refine (sameFrames_eq gv wv fs h.it.y.g.reads h.it.y.f.r hn).mono ?_
  rintro e w' ⟨rfl, K⟩
  exact ⟨rfl, ⟨h.it.quiet K⟩⟩
theorem ft_rheld {q : Option Addr} {l c : Nat} (hf : fv2 = .slice q l c) (h : Aside (Ft A w0 own W p most mb F2 fv2 base wv gv ev fs tb t0 t1 cd sm)) (hb : AreBytes F2) (hL : F2.length ≤ 16777216) (n : Nat) (hn : heldS (prs most F2).rest (prs most F2).dead = n) : Calls Tryd.prog 15 #[.agg #[.int .i64 most, .slice q l c]] W fun e w' => e = .returned (.int .i64 n) ∧ Aside (Ft A w0 own w' p most mb F2 fv2 base wv gv ev fs tb t0 t1 cd sm) := by
  subst hf
  refine (refHeld q l c h.it.y.q.r.1 hb hL).mono ?_
  rintro e w' ⟨rfl, K⟩
  exact ⟨by rw [← hn]; rfl, ⟨h.it.quiet (Keeps.ofBelow K.it)⟩⟩
theorem ft_rwants {q : Option Addr} {l c : Nat} (hf : fv2 = .slice q l c) (h : Aside (Ft A w0 own W p most mb F2 fv2 base wv gv ev fs tb t0 t1 cd sm)) (hb : AreBytes F2) (hL : F2.length ≤ 16777216) (hm : most ≠ 0) (n : Nat) (hn : wantsS (prs most F2).rest (prs most F2).dead = n) : Calls Tryd.prog 17 #[.agg #[.int .i64 most, .slice q l c]] W fun e w' => e = .returned (.int .i64 n) ∧ Aside (Ft A w0 own w' p most mb F2 fv2 base wv gv ev fs tb t0 t1 cd sm) := by
  subst hf
  refine (refWants q l c h.it.y.q.r.1 hb hL hm).mono ?_
  rintro e w' ⟨rfl, K⟩
  exact ⟨by rw [← hn], ⟨h.it.quiet (Keeps.ofBelow K.it)⟩⟩
end
end
end Go.Proofs.YtmlcgmmpmdllcaaDoor

/-
  culvertlaw05.FeedAnswers
-/
namespace Go.Proofs.YtmlcgmmpmdllcaaDoor
open Go.RowKit

theorem sum_take (zs : List PcV) (k : Nat) (z : PcV) (h : zs[k]? = some z) : ((zs.take (k + 1)).map (fun z => z.ns.length)).sum = ((zs.take k).map (fun z => z.ns.length)).sum + z.ns.length := by
  rw [List.take_add_one, h]
  simp
theorem sum_take_le (zs : List PcV) (k : Nat) : ((zs.take k).map (fun z => z.ns.length)).sum ≤ (zs.map (fun z => z.ns.length)).sum := by
  have := congrArg (fun l : List PcV => (l.map (fun z => z.ns.length)).sum) (List.take_append_drop k zs)
  simp only [List.map_append, List.sum_append] at this
  omega
theorem pc_cell {w : World} {zs : List PcV} {a : Option Addr} {c k : Nat} {z : PcV} (h : ListAt (PcOk w) 1 w (.slice a zs.length c) zs) (hz : zs[k]? = some z) : ∃ b o, a = some ⟨b, o, none⟩ ∧ w.cell? ⟨b, o + k, none⟩ = some z.sl ∧ Rd w z.sl z.ns ∧ AreBytes z.ns := by
  obtain ⟨a', c', e, _, _, h⟩ := h
  injection e with e1 _ e2
  subst e1
  obtain ⟨b, o, cs, rfl, ⟨rfl, h1, h2⟩, _, hc⟩ := h k z hz
  have := hc 0 (by decide)
  rw [Nat.mul_one, Nat.add_zero] at this
  exact ⟨b, o, rfl, this, h1, h2⟩
theorem rds_own {own : Nat → Nat} {W W7 : World} {x : Value} {ns : List Int} (h : OwnB W7.heap.size W x ns) : RdS (fun k => give own W7.heap.size 3 k = 1) W x ns := by
  have h' : W.ownsRow W7.heap.size 5 1 x (bv ns).length (bv ns) := by rw [bv_length]; exact h
  obtain ⟨⟨a, c, rfl, hl, hc⟩, h2⟩ := owns_reads h'
  refine ⟨⟨a, c, rfl, hl, fun j u hj => ?_⟩, h2⟩
  obtain ⟨y, hy, _, hce⟩ := hc j u hj
  refine ⟨y, hy, fun e => ?_, hce⟩
  have hb := owns_base h' y.block (by rw [hy]; rfl)
  have e' : give own W7.heap.size 3 y.block = 1 := e
  rw [give_new hb] at e'
  cases e'
def natOf : Value → Nat
  | .int _ q => q.toNat
  | _ => 0

set_option maxRecDepth 20000 in
set_option maxHeartbeats 4000000 in
theorem feedAnswers_good {A : Nat → Addr} (most : Int) (s : Value) (zs : List PcV) (w : World) (B0 : Base A w) (hz : PiecesArg w s zs) (hm1 : 1 ≤ most) (hm2 : most ≤ 65536) :
    Calls Tryd.prog 3 #[.int .i64 most, s] w fun e w' => e = .returned (.bool true) ∧ Below w.heap.size w w' := by
  obtain ⟨hz20, hsum, hz⟩ := hz
  have HZ := Aside.mk hz
  obtain ⟨a, c, rfl, hzc, hcm, _⟩ := hz
  obtain ⟨N, hN⟩ : ∃ N, zs.length = N := ⟨_, rfl⟩
  have HN := Aside.mk hN
  have HSUM := Aside.mk hsum
  rw [hN] at hzc hz20 ⊢
  have FX := Aside.mk (fixed5 B0)
  have HB0 := Aside.mk B0
  have HM := Aside.mk (show most ≠ 0 by omega)
  have hNm : (N : Int) ≤ 1048576 := by omega
  have HM12 := Aside.mk (And.intro hm1 hm2)
  clear hN hsum B0
  go_enter Tryd.func3, Tryd.ntmps3
  go_upto_region 3 with (go_at_call 5; refine FX.it.mono ?_; clear FX; rintro e w1 ⟨rfl, hb1⟩)
  have K1 : Aside (Keeps Nowhere w w1) := ⟨Keeps.ofBelow hb1⟩
  clear hb1
  have G1 := Aside.mk ((Gr.start HB0.it).quiet K1.it)
  have NW := Aside.mk (new_s (i := 1) (j := 2) G1.it HM12.it.1 HM12.it.2)
  go_upto_region 4 with (first | (go_at_call 6; refine NW.it.mono ?_; clear NW; rintro e w2 ⟨p, own2, rfl, X2⟩) | fail)
  have RN := Aside.mk (refNew_ok (w := w2) HM12.it.1 HM12.it.2)
  go_upto_region 5 with (first | (go_at_call 7; refine RN.it.mono ?_; clear RN; rintro e w3 ⟨rfl, B3⟩) | fail)
  obtain ⟨mb, hmb⟩ : ∃ mb, w3.heap.size = mb := ⟨_, rfl⟩
  have Q4 : Aside (Fq A w (give (give own2 w2.heap.size 5) w3.heap.size 6) (w3.alloc (.cells #[.int .i64 most, .slice none 0 0] 31)) p most [] (.slice none 0 0) mb (.slice none 0 0)) := ⟨by
    have s1 : Sn (fun _ => False) own2 w2 (give own2 w2.heap.size 5) w3 := Sn.quiet (Keeps.ofBelow B3.it) 5
    have s2 : Sn (fun _ => False) (give own2 w2.heap.size 5) w3 (give (give own2 w2.heap.size 5) w3.heap.size 6) (w3.alloc (.cells #[.int .i64 most, .slice none 0 0] 31)) := Sn.quiet ((Keeps.refl _ _).alloc _) 6
    have L2 : Lw A w own2 1 2 p most (prs most []).rest (prs most []).dead w2 := by
      rw [show prs most [] = ⟨[], [], none⟩ from parse_short (by decide)]
      exact ⟨X2.it.1, X2.it.2.1⟩
    exact ⟨(L2.sn s1 (fun x => x) (fun x => x) (fun x => x)).sn s2 (fun x => x) (fun x => x) (fun x => x), ⟨⟨⟨none, 0, rfl, Nat.le_refl _, fun j u hj => by simp [bv] at hj⟩, fun l c e => by injection e with _ _ e; exact e.symm⟩, fun h => by simp at h⟩, ⟨by rw [← hmb]; exact Cells.new w3 _ _, give_new (by rw [← hmb]; exact Nat.le_refl _)⟩⟩⟩
  generalize (give (give own2 w2.heap.size 5) w3.heap.size 6) = own4 at Q4
  have CD := Aside.mk (code_nil (w3.alloc (.cells #[.int .i64 most, .slice none 0 0] 31)))
  generalize (w3.alloc (.cells #[.int .i64 most, .slice none 0 0] 31)) = W4 at Q4 CD ⊢
  clear X2 B3
  go_upto_region 7 with (first | (go_at_call 8; refine CD.it.mono ?_; clear CD; rintro e w5 ⟨rfl, hw5⟩; subst hw5) | fail)
  clear hmb
  generalize w5 = W4 at Q4 ⊢
  go_wp2_with fail
  go_loopw [10, 11, 12, 13, 14, 15, 16, 42] (fun _ _ _ _ _ _ _ iv wr => ∃ (k : Nat) (F : List Int) (fq : Option Addr) (fl fc : Nat) (own : Nat → Nat), iv = .int .i64 k ∧ k ≤ N ∧ Aside (F.length ≤ ((zs.take k).map (fun z => z.ns.length)).sum ∧ AreBytes F) ∧ Aside (Fq A w own wr p most F (.slice fq fl fc) mb (.slice fq fl fc))) (fun _ _ _ _ _ _ _ iv _ => N - natOf iv)
  case atStart => exact ⟨0, [], _, _, _, own4, rfl, Nat.zero_le _, ⟨by simp, fun n hn => by cases hn⟩, Q4⟩
  case round =>
    clear Q4
    obtain ⟨k, F, fq, fl, fc, own, rfl, hk, hF, Q⟩ := hrel
    rcases Nat.eq_or_lt_of_le hk with rfl | hlt
    · go_wp2_with fail
      go_ret
      exact ⟨rfl, Q.it.L.G.g.bel⟩
    · obtain ⟨z, hz⟩ : ∃ z, zs[k]? = some z := ⟨_, List.getElem?_eq_getElem (by rw [HN.it]; exact hlt)⟩
      have hzw := HZ.it
      rw [HN.it] at hzw
      obtain ⟨b, o, rfl, hc0, hrd, hbb⟩ := pc_cell (by rw [HN.it]; exact hzw) hz
      have hs1 := sum_take zs k z hz
      have hs2 := sum_take_le zs (k + 1)
      obtain ⟨sl, B⟩ := z
      simp only at hc0 hrd hbb hs1
      clear hz hzw
      have HS : Aside (F.length + B.length ≤ ((zs.take (k + 1)).map (fun z => z.ns.length)).sum ∧ F.length + B.length ≤ 1048576) := ⟨by have := hF.it; have := HSUM.it; omega⟩
      obtain ⟨ba, bc, hsl⟩ := hrd.shape
      subst hsl
      obtain ⟨BL, hBL⟩ : ∃ BL, B.length = BL := ⟨_, rfl⟩
      have HBL := Aside.mk hBL
      have HRD := Aside.mk hrd
      rw [hBL] at HRD hc0
      have HBB := Aside.mk hbb
      clear hs1 hs2 hrd hBL hbb
      have hc1 : wr.cell? ⟨b, o + k, none⟩ = some (.slice ba BL bc) := by rw [Q.it.L.G.g.bel.cell (World.block_lt_of_cell? w _ hc0)]; exact hc0
      have m0 : wr.cell? ⟨mb, 0, none⟩ = some (.int .i64 most) := by rw [Q.it.b.1.cell]; rfl
      have m1 : wr.cell? ⟨mb, 1, none⟩ = some (.slice fq fl fc) := by rw [Q.it.b.1.cell]; rfl
      have RF := Aside.mk (refFeed_any fq fl fc Q.it.r.1 hF.it.2 ba BL bc B (HRD.it.later Q.it.L.G.g.bel) HBB.it (by have := HS.it; omega) HM.it)
      have i1 : (k : Int) ≤ 9223372036854775806 := by omega
      clear hc0
      go_upto_region 11 with (first | (go_at_call 9; refine RF.it.mono ?_; clear RF hc1 m0 m1; rintro e w6 ⟨q6, l6, c6, wq, wl, wc6, rfl, X1, X2, X3⟩) | fail)
      have Y7 := Aside.mk (Q.it.fed X3.it X1.it.1 X1.it.2 X2.it)
      clear X1 X2 X3 Q
      generalize (give (give own wr.heap.size 5) w6.heap.size 6) = own7 at Y7
      generalize (w6.alloc (.cells #[.int .i64 most, .slice q6 l6 c6] 31)) = W7 at Y7 ⊢
      generalize w6.heap.size = nb at Y7 ⊢
      generalize wr.heap.size = base at Y7
      have HR7 := Aside.mk ((HRD.it.later Y7.it.L.G.g.bel).later (((Keeps.refl Nowhere W7).alloc (.cells #[] 5)).bel))
      go_upto_region 12 with (first
        | (at_builtin; refine wpList_appendB rfl (.tmp 55) (.tmp 56) rfl W7.heap.size (.slice (some ⟨W7.heap.size, 0, none⟩) 0 0) (.slice ba BL bc) [] B (owns_empty W7 5) HR7.it (by have := HS.it; simp; omega) (by rw [World.size_alloc]; omega) rfl rfl ?_; intro v8 w8 o8 k8; rw [List.nil_append] at o8; obtain ⟨q8, c8, hv8⟩ := OwnB.shape o8.it; rw [HBL.it] at hv8; subst hv8; have K8 : Aside (Keeps Nowhere W7 w8) := ⟨Keeps.ofBelow ((((Keeps.refl Nowhere W7).alloc (.cells #[] 5)).bel).trans k8.it)⟩; have Y8 := Aside.mk (Y7.it.copy K8.it); have FD := Aside.mk (feed_s (by decide) (by decide) Y8.it.L.G Y8.it.L.D (.slice q8 BL c8) B (rds_own o8.it) HBB.it (by have := prs_rest_len most F; have := HS.it; omega)))
        | (go_at_call 10; refine FD.it.mono ?_; clear FD; rintro e w9 ⟨gv, ev, own9, rfl, X9⟩)
        | fail)
      obtain ⟨Y9, N9⟩ := Y8.it.got X9.it
      have Y9 := Aside.mk Y9
      have N9 := Aside.mk N9
      clear Y7 Y8 X9 HR7
      obtain ⟨F2, hF2⟩ : ∃ F2, fedN most F B = F2 := ⟨_, rfl⟩
      obtain ⟨fs, hfs⟩ : ∃ fs, (stepO most F B).fs = fs := ⟨_, rfl⟩
      have hdd : (stepO most F B).dead = (prs most F2).dead := by rw [← hF2]; exact (prs_next F B).2.symm
      have HF2 : Aside ((F2.length ≤ ((zs.take (k + 1)).map (fun z => z.ns.length)).sum ∧ AreBytes F2) ∧ F2.length ≤ 16777216 ∧ fs.length ≤ 1099511627776) := ⟨by
        have h1 := fedN_len (most := most) F B
        rw [hF2] at h1
        have h2 := HS.it
        refine ⟨⟨by omega, by rw [← hF2]; exact fedN_bytes hF.it.2 HBB.it⟩, by omega, ?_⟩
        rw [← hfs]
        unfold stepO feedO
        cases (prs most F).dead with
        | none =>
          have h3 := parse_count (ck := ckH most) (sz := szN) ((prs most F).rest ++ B)
          have h4 := prs_rest_len most F
          rw [List.length_append] at h3
          show (prs most ((prs most F).rest ++ B)).fs.length ≤ _
          unfold prs at h4 ⊢
          unfold prs at h3
          omega
        | some h => simp⟩
      rw [hF2, hfs] at Y9
      rw [hdd]
      obtain ⟨cd, hcd⟩ : ∃ cd, codeS most (prs most F2).dead = cd := ⟨_, rfl⟩
      obtain ⟨sm, hsm⟩ : ∃ sm, strmS (prs most F2).dead = sm := ⟨_, rfl⟩
      rw [hcd]
      have HCD := Aside.mk hcd
      have HSM := Aside.mk hsm
      clear hF2 hfs hdd hcd hsm
      have n0 : w9.cell? ⟨nb, 0, none⟩ = some (.int .i64 most) := by rw [N9.it.1.cell]; rfl
      have n1 : w9.cell? ⟨nb, 1, none⟩ = some (.slice q6 l6 c6) := by rw [N9.it.1.cell]; rfl
      have m0 : w9.cell? ⟨mb, 0, none⟩ = some (.int .i64 most) := by rw [Y9.it.q.b.1.cell]; rfl
      have m1 : w9.cell? ⟨mb, 1, none⟩ = some (.slice fq fl fc) := by rw [Y9.it.q.b.1.cell]; rfl
      have z0 := Y9.it.q.b.1.frozen 0
      have z1 := Y9.it.q.b.1.frozen 1
      have Y10 := Aside.mk Y9.it.write
      go_upto_region 13 with fail
      clear n0 n1 m0 m1 z0 z1 Y9 N9
      generalize ((w9.setCell ⟨mb, 0, none⟩ (.int .i64 most)).setCell ⟨mb, 1, none⟩ (.slice q6 l6 c6)) = W10 at Y10 ⊢
      have m0 : W10.cell? ⟨mb, 0, none⟩ = some (.int .i64 most) := by rw [Y10.it.q.b.1.cell]; rfl
      have m1 : W10.cell? ⟨mb, 1, none⟩ = some (.slice q6 l6 c6) := by rw [Y10.it.q.b.1.cell]; rfl
      have SY := Aside.mk (say_any (most := most) q6 l6 c6 F2 Y10.it.q.r.1 HF2.it.1.2 HF2.it.2.1)
      rw [HCD.it, HSM.it] at SY
      go_upto_region 14 with (first
        | (go_at_call 11; refine SY.it.mono ?_; clear SY m0 m1; rintro e w11 ⟨tq, tl, tc, rfl, _, B11⟩)
        | fail)
      have T12 := Aside.mk (Y10.it.told B11.it (.slice tq tl tc) (.int .i64 ((restS (prs most F2).rest (prs most F2).dead : Nat) : Int)) cd sm)
      clear Y10 B11
      generalize (give (give own9 W10.heap.size 5) w11.heap.size 6) = own12 at T12
      generalize ((restS (prs most F2).rest (prs most F2).dead : Nat) : Int) = rr at T12 ⊢
      generalize (w11.alloc (.cells #[.slice tq tl tc, .int .i64 rr, .int .i64 cd, .int .u32 sm] 42)) = W12 at T12 ⊢
      generalize w11.heap.size = tb at T12 ⊢
      obtain ⟨m0, m1, t2, t3⟩ := Ft.cells T12
      go_upto_region 16 with (first
        | (go_at_call 12; refine (ft_same T12 HF2.it.2.2).mono ?_; rintro e w13 ⟨rfl, T13⟩; clear m0 m1 t2 t3; obtain ⟨m0, m1, t2, t3⟩ := Ft.cells T13)
        | (go_at_call 13; refine (ft_fails T13 HCD.it HSM.it).mono ?_; rintro e w14 ⟨rfl, T14⟩)
        | fail)
      clear m0 m1 t2 t3 T12 T13
      obtain ⟨hd, hhd⟩ : ∃ hd, heldS (prs most F2).rest (prs most F2).dead = hd := ⟨_, rfl⟩
      obtain ⟨wn, hwn⟩ : ∃ wn, wantsS (prs most F2).rest (prs most F2).dead = wn := ⟨_, rfl⟩
      have HHD := Aside.mk hhd
      have HWN := Aside.mk hwn
      have Td := Aside.mk (T14.it.quiet (Keeps.refl _ _).drew)
      have eh : ((hd : Int) != hd) = false := by simp
      have ew : ((wn : Int) != wn) = false := by simp
      clear T14 hhd hwn
      go_region_held3 (fun w' => w'.cell? ⟨mb, 0, none⟩ = some (.int .i64 most) ∧ w'.cell? ⟨mb, 1, none⟩ = some (.slice q6 l6 c6) ∧ w'.cell? ⟨tb, 2, none⟩ = some (.int .i64 cd) ∧ w'.cell? ⟨tb, 3, none⟩ = some (.int .u32 sm)) (with_reducible exact Ft.cells (by with_reducible assumption)) (first
        | (go_at_call 13; with_reducible refine (ft_fails T19 HCD.it HSM.it).mono ?_; rintro e w20 ⟨rfl, T20⟩)
        | (go_at_call 18; with_reducible refine (ft_err (by with_reducible assumption)).mono ?_; rintro e w19 ⟨ev19, rfl, T19⟩)
        | (go_at_call 17; with_reducible refine (ft_rwants rfl (by with_reducible assumption) HF2.it.1.2 HF2.it.2.1 HM.it wn HWN.it).mono ?_; rintro e w18 ⟨rfl, T18⟩)
        | (go_at_call 16; with_reducible refine (ft_wants (by with_reducible assumption) wn HWN.it).mono ?_; rintro e w17 ⟨rfl, T17⟩)
        | (go_at_call 15; with_reducible refine (ft_rheld rfl (by with_reducible assumption) HF2.it.1.2 HF2.it.2.1 hd HHD.it).mono ?_; rintro e w16 ⟨rfl, T16⟩)
        | (go_at_call 14; with_reducible refine (ft_held (by with_reducible assumption) hd HHD.it).mono ?_; rintro e w15 ⟨rfl, T15⟩)
        | fail)
      all_goals
        go_wp2_with fail
        go_roundw
        case rel => exact ⟨k + 1, F2, q6, l6, c6, own12, by go_num, by omega, ⟨HF2.it.1⟩, ⟨T20.it.y.q⟩⟩
        case measure => simp [natOf]; omega
end Go.Proofs.YtmlcgmmpmdllcaaDoor

/-
  culvertlaw05.FeedAnswers: a nil decoder; every most
-/
namespace Go.Proofs.YtmlcgmmpmdllcaaDoor
open Go.RowKit

section
variable {A : Nat → Addr} {w0 w w' W : World} {own own' : Nat → Nat} {I : Nat → Prop} {mb : Nat}
theorem nil_rd (w : World) : Rd w (.slice none 0 0) [] := ⟨⟨none, 0, rfl, Nat.le_refl _, fun j u hj => by simp [bv] at hj⟩, fun l c e => by injection e with _ _ e; exact e.symm⟩
theorem prs0 (most : Int) : prs most [] = ⟨[], [], none⟩ := parse_short (by decide)
theorem refWants_nil : Calls Tryd.prog 17 #[.agg #[.int .i64 0, .slice none 0 0]] w fun e w' => e = .returned (.int .i64 0) ∧ Aside (Below w.heap.size w w') := by
  have B0 := Cells.new w 31 [.int .i64 0, .slice none 0 0]
  have K0 : Aside (Keeps Nowhere w (w.alloc (.cells #[.int .i64 0, .slice none 0 0] 31))) := ⟨(Keeps.refl _ _).alloc _⟩
  obtain ⟨W0, hW0⟩ : ∃ W0, (w.alloc (.cells #[.int .i64 0, .slice none 0 0] 31)) = W0 := ⟨_, rfl⟩
  obtain ⟨ob, hob⟩ : ∃ ob, w.heap.size = ob := ⟨_, rfl⟩
  rw [hW0] at B0 K0
  rw [hob] at B0
  have HB := Aside.mk B0
  have c0 : W0.cell? ⟨ob, 0, none⟩ = some (.int .i64 0) := by rw [B0.cell]; rfl
  have c1 : W0.cell? ⟨ob, 1, none⟩ = some (.slice none 0 0) := by rw [B0.cell]; rfl
  have SY := Aside.mk (say_any (w := W0) (most := 0) none 0 0 [] (nil_rd W0) (fun n hn => by cases hn) (by decide))
  rw [prs0] at SY
  clear B0
  go_enter Tryd.func17, Tryd.ntmps17
  go_upto_region 1 with fail
  clear hW0 hob
  go_upto_region 2 with (first
    | (go_at_call 11; refine SY.it.mono ?_; clear SY c0 c1; rintro e w2 ⟨tq, tl, tc, rfl, _, B2⟩)
    | fail)
  have K2 := Aside.mk ((Keeps.ofBelow (S := Nowhere) B2.it).alloc (.cells #[.slice tq tl tc, .int .i64 (restS [] none), .int .i64 (codeS 0 none), .int .u32 (strmS none)] 42))
  have T2 := Cells.new w2 42 [.slice tq tl tc, .int .i64 (restS [] none), .int .i64 (codeS 0 none), .int .u32 (strmS none)]
  have c0 : (w2.alloc (.cells #[.slice tq tl tc, .int .i64 (restS [] none), .int .i64 (codeS 0 none), .int .u32 (strmS none)] 42)).cell? ⟨ob, 0, none⟩ = some (.int .i64 0) := by rw [(HB.it.later K2.it (fun x => x)).cell]; rfl
  have t2 : (w2.alloc (.cells #[.slice tq tl tc, .int .i64 (restS [] none), .int .i64 (codeS 0 none), .int .u32 (strmS none)] 42)).cell? ⟨w2.heap.size, 2, none⟩ = some (.int .i64 0) := by rw [T2.cell]; rfl
  clear T2
  go_wp2_with fail
  go_ret
  exact ⟨rfl, ⟨(K0.it.trans K2.it).bel⟩⟩
theorem fails_plain {ev : Value} {k : Nat} (hs : Sents 117 codeVars A w) (hk : k < 1000) (hv : Coded A ev k) (s : Int) : Calls Tryd.prog 13 #[ev, .int .i64 k, .int .u32 s] w fun e w' => e = .returned (.bool true) ∧ w' = w := by
  have CD := Aside.mk (code_of hs hv)
  have e1 : ((k : Int) != k) = false := by simp
  have e2 : (k : Int) < 1000 := by omega
  clear hv hs
  go_enter Tryd.func13, Tryd.ntmps13
  go_wp2_with (first | (go_at_call 8; refine CD.it.mono ?_; rintro e w9 ⟨rfl, hw⟩; subst hw) | fail)
  go_ret
  exact ⟨rfl, rfl⟩
structure Fn (A : Nat → Addr) (w0 : World) (own : Nat → Nat) (W : World) (mb : Nat) : Prop where
  G : Gr A w0 own W
  b : CellsO own 6 W mb 31 [.int .i64 0, .slice none 0 0]
theorem Fn.quiet (h : Fn A w0 own W mb) (hk : Keeps Nowhere W w') : Fn A w0 own w' mb := ⟨h.G.quiet hk, h.b.sn (I := fun _ => False) (Sn.same hk) (fun x => x)⟩
theorem Fn.cells (h : Fn A w0 own W mb) : W.cell? ⟨mb, 0, none⟩ = some (.int .i64 0) ∧ W.cell? ⟨mb, 1, none⟩ = some (.slice none 0 0) ∧ W.frozen? ⟨mb, 0, none⟩ = false ∧ W.frozen? ⟨mb, 1, none⟩ = false := ⟨by rw [h.b.1.cell]; rfl, by rw [h.b.1.cell]; rfl, h.b.1.frozen 0, h.b.1.frozen 1⟩
theorem Fn.write (h : Fn A w0 own W mb) : Fn A w0 own ((W.setCell ⟨mb, 0, none⟩ (.int .i64 0)).setCell ⟨mb, 1, none⟩ (.slice none 0 0)) mb := by
  have s : Sn (fun k => k = 6) own W own ((W.setCell ⟨mb, 0, none⟩ (.int .i64 0)).setCell ⟨mb, 1, none⟩ (.slice none 0 0)) := ⟨fun _ _ => rfl, ((Keeps.refl _ _).setCell _ _ (fun _ => h.b.2)).setCell _ _ (fun _ => h.b.2)⟩
  exact ⟨h.G.sn s (by decide), ⟨(h.b.1.setCell 0 (.int .i64 0)).setCell 1 (.slice none 0 0), h.b.2⟩⟩
/-- and what Say told -/
structure Fm (A : Nat → Addr) (w0 : World) (own : Nat → Nat) (W : World) (mb tb : Nat) : Prop where
  n : Fn A w0 own W mb
  t : ∃ t0 t1, CellsO own 6 W tb 42 [t0, t1, .int .i64 0, .int .u32 0]
theorem Fm.quiet {tb : Nat} (h : Fm A w0 own W mb tb) (hk : Keeps Nowhere W w') : Fm A w0 own w' mb tb := by
  obtain ⟨t0, t1, t⟩ := h.t
  exact ⟨h.n.quiet hk, t0, t1, t.sn (I := fun _ => False) (Sn.same hk) (fun x => x)⟩
theorem Fm.cells {tb : Nat} (h : Aside (Fm A w0 own W mb tb)) : W.cell? ⟨mb, 0, none⟩ = some (.int .i64 0) ∧ W.cell? ⟨mb, 1, none⟩ = some (.slice none 0 0) ∧ W.cell? ⟨tb, 2, none⟩ = some (.int .i64 0) ∧ W.cell? ⟨tb, 3, none⟩ = some (.int .u32 0) := by
  obtain ⟨t0, t1, t⟩ := h.it.t
  exact ⟨h.it.n.cells.1, h.it.n.cells.2.1, by rw [t.1.cell]; rfl, by rw [t.1.cell]; rfl⟩
theorem fm_held {tb : Nat} (h : Aside (Fm A w0 own W mb tb)) : Calls Tryd.prog 14 #[.pointer none] W fun e w' => e = .returned (.int .i64 0) ∧ Aside (Fm A w0 own w' mb tb) := by
  refine (held_nil W).mono ?_
  rintro e w' ⟨rfl, hw⟩
  exact ⟨rfl, by rw [hw]; exact h⟩
theorem fm_wants {tb : Nat} (h : Aside (Fm A w0 own W mb tb)) : Calls Tryd.prog 16 #[.pointer none] W fun e w' => e = .returned (.int .i64 0) ∧ Aside (Fm A w0 own w' mb tb) := by
  refine (wants_nil W).mono ?_
  rintro e w' ⟨rfl, hw⟩
  exact ⟨rfl, by rw [hw]; exact h⟩
theorem fm_err {tb : Nat} (h : Aside (Fm A w0 own W mb tb)) : Calls Tryd.prog 18 #[.pointer none] W fun e w' => e = .returned .nilIface ∧ Aside (Fm A w0 own w' mb tb) := by
  refine (err_nil W).mono ?_
  rintro e w' ⟨rfl, hw⟩
  exact ⟨rfl, by rw [hw]; exact h⟩
theorem fm_rheld {tb : Nat} (h : Aside (Fm A w0 own W mb tb)) : Calls Tryd.prog 15 #[.agg #[.int .i64 0, .slice none 0 0]] W fun e w' => e = .returned (.int .i64 0) ∧ Aside (Fm A w0 own w' mb tb) := by
  refine (refHeld (most := 0) none 0 0 (nil_rd W) (fun n hn => by cases hn) (by decide)).mono ?_
  rintro e w' ⟨rfl, K⟩
  exact ⟨by rw [prs0]; rfl, ⟨h.it.quiet (Keeps.ofBelow K.it)⟩⟩
theorem fm_rwants {tb : Nat} (h : Aside (Fm A w0 own W mb tb)) : Calls Tryd.prog 17 #[.agg #[.int .i64 0, .slice none 0 0]] W fun e w' => e = .returned (.int .i64 0) ∧ Aside (Fm A w0 own w' mb tb) := by
  refine (refWants_nil (w := W)).mono ?_
  rintro e w' ⟨rfl, K⟩
  exact ⟨rfl, ⟨h.it.quiet (Keeps.ofBelow K.it)⟩⟩
theorem fm_fails {tb : Nat} (h : Aside (Fm A w0 own W mb tb)) {ev : Value} {k : Nat} (hk : k < 1000) (hv : Coded A ev k) (s : Int) : Calls Tryd.prog 13 #[ev, .int .i64 k, .int .u32 s] W fun e w' => e = .returned (.bool true) ∧ Aside (Fm A w0 own w' mb tb) := by
  refine (fails_plain h.it.n.G.here.s hk hv s).mono ?_
  rintro e w' ⟨rfl, hw⟩
  exact ⟨rfl, by rw [hw]; exact h⟩
end

set_option maxRecDepth 20000 in
set_option maxHeartbeats 4000000 in
theorem feedAnswers_bad {A : Nat → Addr} (most : Int) (s : Value) (zs : List PcV) (w : World) (B0 : Base A w) (hz : PiecesArg w s zs) (hbad : most < 1 ∨ 65536 < most) :
    Calls Tryd.prog 3 #[.int .i64 most, s] w fun e w' => e = .returned (.bool true) ∧ Below w.heap.size w w' := by
  obtain ⟨hz20, hsum, hz⟩ := hz
  have HZ := Aside.mk hz
  obtain ⟨a, c, rfl, hzc, hcm, _⟩ := hz
  obtain ⟨N, hN⟩ : ∃ N, zs.length = N := ⟨_, rfl⟩
  have HN := Aside.mk hN
  have HSUM := Aside.mk hsum
  rw [hN] at hzc hz20 ⊢
  have FX := Aside.mk (fixed5 B0)
  have HB0 := Aside.mk B0
  have hNm : (N : Int) ≤ 1048576 := by omega
  have HBAD := Aside.mk hbad
  clear hN hsum B0 hbad
  go_enter Tryd.func3, Tryd.ntmps3
  go_upto_region 3 with (go_at_call 5; refine FX.it.mono ?_; clear FX; rintro e w1 ⟨rfl, hb1⟩)
  have K1 : Aside (Keeps Nowhere w w1) := ⟨Keeps.ofBelow hb1⟩
  clear hb1
  have G1 := Aside.mk ((Gr.start HB0.it).quiet K1.it)
  have NW := Aside.mk (new_bad most w1 G1.it.here.s HBAD.it)
  go_upto_region 4 with (first | (go_at_call 6; refine NW.it.mono ?_; clear NW; rintro e w2 ⟨rfl, n2, hw2⟩; have K2 : Aside (Keeps Nowhere w1 w2) := ⟨by rw [hw2]; exact drewN_keeps _ _⟩; clear hw2) | fail)
  have RN := Aside.mk (refNew_bad (w := w2) HBAD.it)
  go_upto_region 5 with (first | (go_at_call 7; refine RN.it.mono ?_; clear RN; rintro e w3 ⟨rfl, B3⟩) | fail)
  obtain ⟨mb, hmb⟩ : ∃ mb, w3.heap.size = mb := ⟨_, rfl⟩
  have Q4 : Aside (Fn A w (give (fun _ => 0) w3.heap.size 6) (w3.alloc (.cells #[.int .i64 0, .slice none 0 0] 31)) mb) := ⟨by
    have s2 : Sn (fun _ => False) (fun _ => 0) w3 (give (fun _ => 0) w3.heap.size 6) (w3.alloc (.cells #[.int .i64 0, .slice none 0 0] 31)) := Sn.quiet ((Keeps.refl _ _).alloc _) 6
    exact ⟨(G1.it.quiet (K2.it.trans (Keeps.ofBelow B3.it))).sn s2 (fun x => x), ⟨by rw [← hmb]; exact Cells.new w3 _ _, give_new (by rw [← hmb]; exact Nat.le_refl _)⟩⟩⟩
  generalize (give (fun _ => 0) w3.heap.size 6) = own4 at Q4
  generalize (w3.alloc (.cells #[.int .i64 0, .slice none 0 0] 31)) = W4 at Q4 ⊢
  have CD := Aside.mk (code_of Q4.it.G.here.s (Coded.mk 1 2 (by decide) (by decide) rfl))
  clear B3 K2
  go_upto_region 7 with (first | (go_at_call 8; refine CD.it.mono ?_; clear CD; rintro e w5 ⟨rfl, hw5⟩; subst hw5) | fail)
  clear hmb
  generalize w5 = W4 at Q4 ⊢
  go_wp2_with fail
  go_loopw [10, 11, 12, 13, 14, 15, 16, 42] (fun _ _ _ _ _ _ _ iv wr => ∃ (k : Nat) (own : Nat → Nat), iv = .int .i64 k ∧ k ≤ N ∧ Aside (Fn A w own wr mb)) (fun _ _ _ _ _ _ _ iv _ => N - natOf iv)
  case atStart => exact ⟨0, own4, rfl, Nat.zero_le _, Q4⟩
  case round =>
    clear Q4
    obtain ⟨k, own, rfl, hk, Q⟩ := hrel
    rcases Nat.eq_or_lt_of_le hk with rfl | hlt
    · go_wp2_with fail
      go_ret
      exact ⟨rfl, Q.it.G.g.bel⟩
    · obtain ⟨z, hz⟩ : ∃ z, zs[k]? = some z := ⟨_, List.getElem?_eq_getElem (by rw [HN.it]; exact hlt)⟩
      have hzw := HZ.it
      rw [HN.it] at hzw
      obtain ⟨b, o, rfl, hc0, hrd, hbb⟩ := pc_cell (by rw [HN.it]; exact hzw) hz
      have hs1 := sum_take zs k z hz
      have hs2 := sum_take_le zs (k + 1)
      obtain ⟨sl, B⟩ := z
      simp only at hc0 hrd hbb hs1
      clear hz hzw hbb
      have HS : Aside (B.length ≤ 1048576) := ⟨by have := HSUM.it; omega⟩
      obtain ⟨ba, bc, hsl⟩ := hrd.shape
      subst hsl
      obtain ⟨BL, hBL⟩ : ∃ BL, B.length = BL := ⟨_, rfl⟩
      have HBL := Aside.mk hBL
      have HRD := Aside.mk hrd
      rw [hBL] at HRD hc0
      clear hs1 hs2 hrd hBL
      have hc1 : wr.cell? ⟨b, o + k, none⟩ = some (.slice ba BL bc) := by rw [Q.it.G.g.bel.cell (World.block_lt_of_cell? w _ hc0)]; exact hc0
      obtain ⟨m0, m1, _⟩ := Q.it.cells
      have RF := Aside.mk (refFeed_nil (w := wr) none 0 0 (.slice ba BL bc))
      have i1 : (k : Int) ≤ 9223372036854775806 := by omega
      clear hc0
      go_upto_region 11 with (first | (go_at_call 9; refine RF.it.mono ?_; clear RF hc1 m0 m1; rintro e w6 ⟨rfl, X3⟩) | fail)
      have K7 := Aside.mk ((Keeps.ofBelow (S := Nowhere) X3.it).alloc (.cells #[.int .i64 0, .slice none 0 0] 31))
      have Q7 := Aside.mk (Q.it.quiet K7.it)
      have N7 := Aside.mk (Cells.new w6 31 [.int .i64 0, .slice none 0 0])
      clear X3 Q K7
      generalize (w6.alloc (.cells #[.int .i64 0, .slice none 0 0] 31)) = W7 at Q7 N7 ⊢
      generalize w6.heap.size = nb at N7 ⊢
      have HR7 := Aside.mk ((HRD.it.later Q7.it.G.g.bel).later (((Keeps.refl Nowhere W7).alloc (.cells #[] 5)).bel))
      go_upto_region 12 with (first
        | (at_builtin; refine wpList_appendB rfl (.tmp 55) (.tmp 56) rfl W7.heap.size (.slice (some ⟨W7.heap.size, 0, none⟩) 0 0) (.slice ba BL bc) [] B (owns_empty W7 5) HR7.it (by have := HS.it; simp; omega) (by rw [World.size_alloc]; omega) rfl rfl ?_; intro v8 w8 o8 k8; rw [List.nil_append] at o8; obtain ⟨q8, c8, hv8⟩ := OwnB.shape o8.it; rw [HBL.it] at hv8; subst hv8; have K8 : Aside (Keeps Nowhere W7 w8) := ⟨Keeps.ofBelow ((((Keeps.refl Nowhere W7).alloc (.cells #[] 5)).bel).trans k8.it)⟩; have FD := Aside.mk (feed_nil (Q7.it.quiet K8.it).G.here (.slice q8 BL c8)))
        | (go_at_call 10; refine FD.it.mono ?_; clear FD; rintro e w9 ⟨rfl, k9⟩)
        | fail)
      have Q9 := Aside.mk (Q7.it.quiet (K8.it.trans k9))
      have N9 := Aside.mk (N7.it.later (K8.it.trans k9) (fun x => x))
      clear Q7 N7 HR7
      have n0 : w9.cell? ⟨nb, 0, none⟩ = some (.int .i64 0) := by rw [N9.it.cell]; rfl
      have n1 : w9.cell? ⟨nb, 1, none⟩ = some (.slice none 0 0) := by rw [N9.it.cell]; rfl
      obtain ⟨m0, m1, z0, z1⟩ := Q9.it.cells
      have Q10 := Aside.mk Q9.it.write
      go_upto_region 13 with fail
      clear n0 n1 m0 m1 z0 z1 Q9 N9
      generalize ((w9.setCell ⟨mb, 0, none⟩ (.int .i64 0)).setCell ⟨mb, 1, none⟩ (.slice none 0 0)) = W10 at Q10 ⊢
      obtain ⟨m0, m1, _⟩ := Q10.it.cells
      have SY := Aside.mk (say_any (w := W10) (most := 0) none 0 0 [] (nil_rd W10) (fun n hn => by cases hn) (by decide))
      rw [prs0] at SY
      have sy1 : Aside (codeS 0 none = 0 ∧ strmS none = 0) := ⟨rfl, rfl⟩
      simp only [sy1.it.1, sy1.it.2] at SY
      go_upto_region 14 with (first
        | (go_at_call 11; refine SY.it.mono ?_; clear SY m0 m1; rintro e w11 ⟨tq, tl, tc, rfl, _, B11⟩)
        | fail)
      obtain ⟨rr, hrr⟩ : ∃ rr : Int, ((restS [] none : Nat) : Int) = rr := ⟨_, rfl⟩
      rw [hrr]
      have T12 : Aside (Fm A w (give own w11.heap.size 6) (w11.alloc (.cells #[.slice tq tl tc, .int .i64 rr, .int .i64 0, .int .u32 0] 42)) mb w11.heap.size) := ⟨by
        have h1 := Q10.it.quiet (Keeps.ofBelow B11.it)
        have s2 : Sn (fun _ => False) own w11 (give own w11.heap.size 6) (w11.alloc (.cells #[.slice tq tl tc, .int .i64 rr, .int .i64 0, .int .u32 0] 42)) := Sn.quiet ((Keeps.refl _ _).alloc _) 6
        exact ⟨⟨h1.G.sn s2 (fun x => x), h1.b.sn s2 (fun x => x)⟩, _, _, ⟨Cells.new w11 _ _, give_new (Nat.le_refl _)⟩⟩⟩
      clear Q10 B11 hrr
      generalize (give own w11.heap.size 6) = own12 at T12
      generalize (w11.alloc (.cells #[.slice tq tl tc, .int .i64 rr, .int .i64 0, .int .u32 0] 42)) = W12 at T12 ⊢
      generalize w11.heap.size = tb at T12 ⊢
      obtain ⟨m0, m1, t2, t3⟩ := Fm.cells T12
      have SF := Aside.mk (sameFrames_eq (w := W12) (.slice none 0 0) (.slice none 0 0) [] ⟨[], rfl, ⟨rfl, none, 0, rfl, Nat.le_refl _, Nat.zero_le _, fun _ => rfl, fun j u hj => by simp [fcells] at hj⟩, fun x hx => by cases hx⟩ ⟨[], rfl, ⟨rfl, none, 0, rfl, Nat.le_refl _, Nat.zero_le _, fun _ => rfl, fun j u hj => by simp [fcells] at hj⟩, fun x hx => by cases hx⟩ (by decide))
      go_upto_region 16 with (first
        | (go_at_call 12; refine SF.it.mono ?_; clear SF; rintro e w13 ⟨rfl, k13⟩; have T13 := Aside.mk (T12.it.quiet k13); clear m0 m1 t2 t3; obtain ⟨m0, m1, t2, t3⟩ := Fm.cells T13)
        | (go_at_call 13; refine (fm_fails T13 (k := 1) (by decide) (Coded.mk 0 1 (by decide) (by decide) rfl) 0).mono ?_; rintro e w14 ⟨rfl, T14⟩)
        | fail)
      clear m0 m1 t2 t3 T12 T13
      have Td := Aside.mk (T14.it.quiet (Keeps.refl _ _).drew)
      clear T14
      go_region_held3 (fun w' => w'.cell? ⟨mb, 0, none⟩ = some (.int .i64 0) ∧ w'.cell? ⟨mb, 1, none⟩ = some (.slice none 0 0) ∧ w'.cell? ⟨tb, 2, none⟩ = some (.int .i64 0) ∧ w'.cell? ⟨tb, 3, none⟩ = some (.int .u32 0)) (with_reducible exact Fm.cells (by with_reducible assumption)) (first
        | (go_at_call 13; refine (fm_fails T19 (k := 0) (by decide) Coded.none 0).mono ?_; rintro e w20 ⟨rfl, T20⟩)
        | (go_at_call 18; with_reducible refine (fm_err (by with_reducible assumption)).mono ?_; rintro e w19 ⟨rfl, T19⟩)
        | (go_at_call 17; with_reducible refine (fm_rwants (by with_reducible assumption)).mono ?_; rintro e w18 ⟨rfl, T18⟩)
        | (go_at_call 16; with_reducible refine (fm_wants (by with_reducible assumption)).mono ?_; rintro e w17 ⟨rfl, T17⟩)
        | (go_at_call 15; with_reducible refine (fm_rheld (by with_reducible assumption)).mono ?_; rintro e w16 ⟨rfl, T16⟩)
        | (go_at_call 14; with_reducible refine (fm_held (by with_reducible assumption)).mono ?_; rintro e w15 ⟨rfl, T15⟩)
        | fail)
      all_goals
        go_wp2_with fail
        go_roundw
        case rel => exact ⟨k + 1, own12, by go_num, by omega, ⟨T20.it.n⟩⟩
        case measure => simp [natOf]; omega
theorem feedAnswers_walkU {A : Nat → Addr} (most : Int) (s : Value) (zs : List PcV) (w : World) (B0 : Base A w) (hz : PiecesArg w s zs) :
    Calls Tryd.prog 3 #[.int .i64 most, s] w fun e w' => e = .returned (.bool true) ∧ Below w.heap.size w w' := by
  by_cases h : 1 ≤ most ∧ most ≤ 65536
  · exact feedAnswers_good most s zs w B0 hz h.1 h.2
  · exact feedAnswers_bad most s zs w B0 hz (by omega)
end Go.Proofs.YtmlcgmmpmdllcaaDoor

