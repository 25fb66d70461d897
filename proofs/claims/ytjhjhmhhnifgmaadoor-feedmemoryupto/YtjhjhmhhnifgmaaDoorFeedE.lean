/-
  package feed: Feed.
-/
import Derived.Test.YtjhjhmhhnifgmaaDoorFeedE0
namespace Go.Proofs.YtjhjhmhhnifgmaaDoor
open Go.RowKit

abbrev prs (most : Int) (ns : List Int) : Out := parse (ckH most) szN ns
section
variable {A : Nat → Addr} {w0 : World} {own : Nat → Nat} {i j : Nat} {w w' : World} {p : Nat} {most : Int} {hs g : List Int}
theorem wantsI_live (hl : Live (ckH most) szN hs) (hb : AreBytes hs) (hg : 12 ≤ hs.length → g = hs.take 12) : wantsI hs.length (dT g) (dL g) = (wantsP szN hs : Int) := by
  unfold wantsI wantsP
  rcases hl with h | ⟨h1, h2, h3⟩
  · rw [if_pos (by omega), if_pos h]; omega
  · rw [if_neg (by omega), if_neg (by omega), hg h1, szH_nat (hb.take 12)]; omega
/-- Feed's world at the beginning of a round: x and whole are the slices, hs is held, bs is left, fs are the frames so far -/
structure FeedAt (A : Nat → Addr) (w0 : World) (own : Nat → Nat) (i j : Nat) (w : World) (p : Nat) (most : Int) (T : Out) (N : Nat) (own' : Nat → Nat) (W : World) (hs bs : List Int) (fs : List (List Int × List Int)) (x whole : Value) : Prop where
  G : Gr A w0 own' W
  ext : ∀ k, k < w.heap.size → own' k = own k
  K : Keeps (fun k => own k = i) w W
  D : ∃ g, DecM own' i W p most hs g ∧ (12 ≤ hs.length → g = hs.take 12)
  live : Live (ckH most) szN hs
  F : FramesD own' j W whole fs w.heap.size
  R : RdS (fun k => own k = i ∨ w.heap.size ≤ k) W x bs
  fr : ∀ k, whole.ownBlock = some k → w.heap.size ≤ k
  B : w0.heap.size ≤ w.heap.size
  b : AreBytes bs
  T : T = ⟨fs ++ (prs most (hs ++ bs)).fs, (prs most (hs ++ bs)).rest, (prs most (hs ++ bs)).dead⟩
  len : 12 * fs.length + hs.length + bs.length ≤ N
/-- the same in the middle of a round -/
structure MidAt (A : Nat → Addr) (w0 : World) (own : Nat → Nat) (i j : Nat) (w : World) (p : Nat) (most : Int) (own' : Nat → Nat) (W : World) (hs g bs : List Int) (fs : List (List Int × List Int)) (x whole : Value) : Prop where
  G : Gr A w0 own' W
  ext : ∀ k, k < w.heap.size → own' k = own k
  K : Keeps (fun k => own k = i) w W
  D : DecM own' i W p most hs g
  F : FramesD own' j W whole fs w.heap.size
  R : RdS (fun k => own k = i ∨ w.heap.size ≤ k) W x bs
  fr : ∀ k, whole.ownBlock = some k → w.heap.size ≤ k
  B : w0.heap.size ≤ w.heap.size
theorem MidAt.step {W W' : World} {own' own'' : Nat → Nat} {hs hs' g g' bs bs' : List Int} {fs : List (List Int × List Int)} {x x' whole : Value} (h : MidAt A w0 own i j w p most own' W hs g bs fs x whole) (hi : i ≠ 0) (hij : j ≠ i)
    (he : ∀ k, k < W.heap.size → own'' k = own' k) (hk : Keeps (fun k => own' k = i) W W') (D : DecM own'' i W' p most hs' g') (R : RdS (fun k => own k = i ∨ w.heap.size ≤ k) W' x' bs') : MidAt A w0 own i j w p most own'' W' hs' g' bs' fs x' whole :=
  ⟨h.G.step hk hi he, fun k hk' => (he k (Nat.lt_of_lt_of_le hk' h.K.size)).trans (h.ext k hk'), h.K.next hk (fun k e hk' => (h.ext k hk').symm.trans e), D, h.F.others hk hij he, R, h.fr, h.B⟩
theorem MidAt.quiet {W W' : World} {own' : Nat → Nat} {hs g bs : List Int} {fs : List (List Int × List Int)} {x whole : Value} (h : MidAt A w0 own i j w p most own' W hs g bs fs x whole) (hk : Keeps Nowhere W W') : MidAt A w0 own i j w p most own' W' hs g bs fs x whole := by
  exact ⟨h.G.quiet hk, h.ext, h.K.next hk (fun _ e _ => e.elim), h.D.quiet hk, h.F.quiet hk, (h.R.later (Keeps.any hk)).mono (fun _ e _ => .inl e), h.fr, h.B⟩
theorem MidAt.mine {W : World} {own' : Nat → Nat} {hs g bs : List Int} {fs : List (List Int × List Int)} {x whole : Value} (h : MidAt A w0 own i j w p most own' W hs g bs fs x whole) : ∀ k, own' k = i → own k = i ∨ w.heap.size ≤ k := fun k e => by
  rcases Nat.lt_or_ge k w.heap.size with hl | hl
  · exact .inl ((h.ext k hl).symm.trans e)
  · exact .inr hl
theorem MidAt.rlater {W W' : World} {own' : Nat → Nat} {hs g bs : List Int} {fs : List (List Int × List Int)} {x whole : Value} (h : MidAt A w0 own i j w p most own' W hs g bs fs x whole) (hk : Keeps (fun k => own' k = i) W W') : RdS (fun k => own k = i ∨ w.heap.size ≤ k) W' x bs :=
  (h.R.later (hk.mono (fun k e _ => h.mine k e))).mono (fun _ e _ => .inl e)
theorem FeedAt.mid {W : World} {own' : Nat → Nat} {hs bs : List Int} {T : Out} {N : Nat} {fs : List (List Int × List Int)} {x whole : Value} (h : FeedAt A w0 own i j w p most T N own' W hs bs fs x whole) : ∃ g, MidAt A w0 own i j w p most own' W hs g bs fs x whole ∧ (12 ≤ hs.length → g = hs.take 12) := by
  obtain ⟨g, d, hg⟩ := h.D
  exact ⟨g, ⟨h.G, h.ext, h.K, d, h.F, h.R, h.fr, h.B⟩, hg⟩
/-- take, in Feed's world -/
theorem take_f {W : World} {own' : Nat → Nat} {hs g bs : List Int} {fs : List (List Int × List Int)} {x whole : Value} (hi : i ≠ 0) (hij : j ≠ i) (h : MidAt A w0 own i j w p most own' W hs g bs fs x whole) (hb : AreBytes bs) (n : Nat) (hmin : min (bs.length : Int) (wantsI hs.length (dT g) (dL g)) = n) (hhs : hs.length ≤ 4294967400) (hbs : bs.length ≤ 140737488351232) :
    Calls Tryd.prog 18 #[dPtr p, x] W fun e W' => ∃ q l c own'', e = .returned (.slice q l c) ∧ Aside (l = bs.length - n ∧ MidAt A w0 own i j w p most own'' W' (hs ++ bs.take n) g (bs.drop n) fs (.slice q l c) whole) := by
  refine (take_m h.D x bs h.R h.mine hb n hmin hhs hbs).mono ?_
  rintro e W' ⟨y, own'', rfl, ⟨he, hr, hd, hk⟩⟩
  obtain ⟨q, c, rfl, _⟩ := hr.shape
  exact ⟨q, _, c, own'', rfl, ⟨by simp, h.step hi hij he hk hd (hr.mono (fun _ e _ => .inl e))⟩⟩
theorem wants_f {W : World} {own' : Nat → Nat} {hs g bs : List Int} {fs : List (List Int × List Int)} {x whole : Value} (h : MidAt A w0 own i j w p most own' W hs g bs fs x whole) (hn : hs.length ≤ 4294967400) (z : Int) (hz : wantsI hs.length (dT g) (dL g) = z) :
    Calls Tryd.prog 12 #[dPtr p] W fun e W' => e = .returned (.int .i64 z) ∧ Aside (MidAt A w0 own i j w p most own' W' hs g bs fs x whole) := by
  refine (wants_m h.D hn).mono ?_
  rintro e W' ⟨rfl, hk⟩
  exact ⟨by rw [hz], ⟨h.quiet hk⟩⟩
theorem judge_f {W : World} {own' : Nat → Nat} {hs g bs : List Int} {fs : List (List Int × List Int)} {x whole : Value} (hi : i ≠ 0) (hij : j ≠ i) (h : MidAt A w0 own i j w p most own' W hs g bs fs x whole) (hlen : hs.length = 12) (hck : ckH most hs = true) :
    Calls Tryd.prog 19 #[dPtr p] W fun e W' => ∃ own'', e = .returned (.bool true) ∧ Aside (MidAt A w0 own i j w p most own'' W' hs hs bs fs x whole) := by
  refine (judge_m j h.G hi h.D hlen).mono ?_
  rintro e W' ⟨rfl, ⟨own'', he, hk, hor⟩⟩
  rw [hck] at hor ⊢
  rcases hor with ⟨_, d⟩ | ⟨e, _⟩
  · exact ⟨own'', rfl, ⟨h.step hi hij he hk d (h.rlater hk)⟩⟩
  · cases e
/-- behind a header that may not be -/
structure DiedAt (A : Nat → Addr) (w0 : World) (own : Nat → Nat) (i j : Nat) (w : World) (p : Nat) (most : Int) (own' : Nat → Nat) (W : World) (h : List Int) (fs : List (List Int × List Int)) (whole : Value) : Prop where
  G : Gr A w0 own' W
  ext : ∀ k, k < w.heap.size → own' k = own k
  K : Keeps (fun k => own k = i) w W
  D : DeadM A own' i j W p most h
  fr : ∀ k, whole.ownBlock = some k → w.heap.size ≤ k
  F : FramesD own' j W whole fs w.heap.size
theorem judge_bad {W : World} {own' : Nat → Nat} {hs g bs : List Int} {fs : List (List Int × List Int)} {x whole : Value} (hi : i ≠ 0) (hij : j ≠ i) (h : MidAt A w0 own i j w p most own' W hs g bs fs x whole) (hlen : hs.length = 12) (hck : ckH most hs = false) :
    Calls Tryd.prog 19 #[dPtr p] W fun e W' => ∃ own'', e = .returned (.bool false) ∧ Aside (DiedAt A w0 own i j w p most own'' W' hs fs whole) := by
  refine (judge_m j h.G hi h.D hlen).mono ?_
  rintro e W' ⟨rfl, ⟨own'', he, hk, hor⟩⟩
  rw [hck] at hor ⊢
  rcases hor with ⟨e, _⟩ | ⟨_, d⟩
  · cases e
  · exact ⟨own'', rfl, ⟨h.G.step hk hi he, fun k hk' => (he k (Nat.lt_of_lt_of_le hk' h.K.size)).trans (h.ext k hk'), h.K.next hk (fun k e hk' => (h.ext k hk').symm.trans e), d, h.fr, h.F.others hk hij he⟩⟩
theorem letGo_f {W : World} {own' : Nat → Nat} {hs g bs : List Int} {fs : List (List Int × List Int)} {x whole : Value} (hi : i ≠ 0) (hij : j ≠ i) (h : MidAt A w0 own i j w p most own' W hs g bs fs x whole) (h12 : 12 ≤ hs.length) (hlen : hs.length ≤ 4294967400) :
    Calls Tryd.prog 20 #[dPtr p] W fun e W' => ∃ q l c own'', e = .returned (frmH g (.slice q l c)) ∧ Aside (MidAt A w0 own i j w p most own'' W' [] g bs fs x whole ∧ DataO own'' j W' (.slice q l c) (hs.drop 12) ∧ FramesE own'' j W' whole fs w.heap.size W.heap.size ∧ ∀ b, (Value.slice q l c).ownBlock = some b → W.heap.size ≤ b) := by
  refine (letGo_m (j := j) h.D h12 hlen).mono ?_
  rintro e W' ⟨q, l, c, rfl, ⟨hk, d, hd, hf⟩⟩
  exact ⟨q, l, c, _, rfl, ⟨h.step hi hij (fun k hk => give_old hk) hk d (h.rlater hk), hd, FramesE.others h.F hk hij (fun k hk => give_old hk), hf⟩⟩
theorem MidAt.held {W : World} {own' : Nat → Nat} {hs g bs : List Int} {fs : List (List Int × List Int)} {x whole : Value} (h : MidAt A w0 own i j w p most own' W hs g bs fs x whole) {n : Nat} (hn : hs.length = n) : ∃ q c, W.cell? ⟨p, 1, none⟩ = some (.slice q n c) := by
  obtain ⟨hv, d, _⟩ := h.D.d
  obtain ⟨q, c, rfl⟩ := owns_val d.r
  exact ⟨q, c, by rw [← hn]; exact d.c.cell 1⟩
/-- one frame more behind those so far -/
theorem pushed {W W' : World} {ob : Obj} {own' : Nat → Nat} {h12 g d bs : List Int} {fs : List (List Int × List Int)} {x whole v' dv : Value} {xs : List FX} (hij : j ≠ i) (m : MidAt A w0 own i j w p most own' W [] g bs fs x whole) (hd : DataO own' j W dv d) (y1 : xs.map (·.1) = fs)
    (y2 : W.ownsRow 0 46 6 whole xs.length (fcells xs)) (y3 : ∀ k, whole.ownBlock = some k → own' k = j) (y4 : ∀ x ∈ xs, DataO own' j W x.2 x.1.2) {base : Nat} (y5 : Apart6 xs ∧ (∀ x ∈ xs, ∀ b, x.2.ownBlock = some b → w.heap.size ≤ b ∧ b < base) ∧ w.heap.size ≤ base) (hn : ∀ b, dv.ownBlock = some b → base ≤ b)
    (o : W'.ownsRow 0 46 6 v' (xs.length + 1) (fcells xs ++ frmL g dv)) (k2 : Keeps (fun b => whole.ownBlock = some b) (W.alloc ob) W') (b2 : ∀ b, v'.ownBlock = some b → whole.ownBlock = some b ∨ (W.alloc ob).heap.size ≤ b) (hg : g = h12) :
    MidAt A w0 own i j w p most (give own' W.heap.size j) W' [] g bs (fs ++ [(h12, d)]) x v' := by
  have kA : Keeps (fun b => whole.ownBlock = some b) W W' := ((Keeps.refl _ _).alloc ob).next k2 (fun k e _ => e)
  have hsz : W.heap.size ≤ (W.alloc ob).heap.size := by simp
  have b3 : ∀ b, v'.ownBlock = some b → whole.ownBlock = some b ∨ W.heap.size ≤ b := fun b hb => (b2 b hb).imp id (fun e => Nat.le_trans hsz e)
  have he : ∀ k, k < W.heap.size → give own' W.heap.size j k = own' k := fun k hk => give_old hk
  have F := FramesE.push y2 y3 y4 y5 hd hn m.K.size o kA b3
  subst y1 hg
  refine ⟨⟨m.G.b, fun k hk => ?_, ?_, Nat.le_trans m.G.g.size kA.size⟩, fun k hk => (he k (Nat.lt_of_lt_of_le hk m.K.size)).trans (m.ext k hk), m.K.next kA (fun k e hk => absurd (m.fr k e) (by omega)), ?_, F, ?_, fun k hk => ?_, m.B⟩
  · rw [he k (by have := m.G.g.size; omega)]; exact m.G.g.zero k hk
  · refine below_next m.G.g.bel kA m.G.g.size (fun k e _ => ?_)
    exact Nat.le_trans m.B (m.fr k e)
  · obtain ⟨hp, ⟨hv, dd, ho⟩, hb, hgb⟩ := m.D
    have hpl := dd.c.lt
    refine ⟨(he p hpl).trans hp, ⟨hv, ⟨dd.c.later kA (fun e => hij ((y3 p e).symm.trans hp)), owns_later dd.r kA (fun b hb e => hij ((y3 b e).symm.trans (ho b hb)))⟩, fun k hk => (he k (owns_lt dd.r k hk)).trans (ho k hk)⟩, hb, hgb⟩
  · exact ((m.R.mono (S' := fun k => own k = i ∨ w.heap.size ≤ k) (fun k e _ => e)).later (kA.mono (fun k e _ => .inr (m.fr k e)))).mono (fun _ e _ => .inl e)
  · rcases b3 k hk with e | e
    · exact m.fr k e
    · exact Nat.le_trans m.K.size e
end
end Go.Proofs.YtjhjhmhhnifgmaaDoor
