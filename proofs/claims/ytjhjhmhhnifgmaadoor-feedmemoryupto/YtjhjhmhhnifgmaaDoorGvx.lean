import Derived.Test.YtjhjhmhhnifgmaaDoorFeedD
/-
  package feed: frames in memory; what one round of Feed does to the bytes.
-/
namespace Go.Proofs.YtjhjhmhhnifgmaaDoor
open Go.RowKit

section
variable {ck : List Int → Bool} {sz : List Int → Nat} {hs bs : List Int} {n : Nat}
theorem round_same (hs bs : List Int) (n : Nat) : (hs ++ bs.take n) ++ bs.drop n = hs ++ bs := by rw [List.append_assoc, List.take_append_drop]
theorem round_len (hs bs : List Int) (hn : n ≤ bs.length) : (hs ++ bs.take n).length = hs.length + n := by simp; omega
theorem round_12 (hn : n ≤ bs.length) (h0 : 0 < n) (h : (hs ++ bs.take n).length = 12) : hs.length < 12 := by
  rw [round_len hs bs hn] at h
  omega
theorem round_more (hl : Live ck sz hs) (hn : n ≤ bs.length) (hw : n ≤ wantsP sz hs) (h : 12 < (hs ++ bs.take n).length) :
    12 ≤ hs.length ∧ (hs ++ bs.take n).take 12 = hs.take 12 ∧ ck (hs.take 12) = true ∧ (hs ++ bs.take n).length ≤ 12 + sz (hs.take 12) := by
  rw [round_len hs bs hn] at *
  unfold wantsP at hw
  rcases hl with hl | ⟨h1, h2, h3⟩
  · rw [if_pos hl] at hw; omega
  · rw [if_neg (by omega)] at hw
    exact ⟨h1, by rw [List.take_append_of_le_length h1], h2, by omega⟩
/-- a round ends with a header that may not be -/
theorem round_dead (h : (hs ++ bs.take n).length = 12) (hc : ck (hs ++ bs.take n) = false) : parse ck sz (hs ++ bs) = ⟨[], [], some (hs ++ bs.take n)⟩ := by
  rw [← round_same hs bs n]
  exact parse_dead _ _ h hc
/-- a round ends with a whole frame -/
theorem round_frame (x : List Int) (hx : x ++ bs.drop n = hs ++ bs) (h12 : 12 ≤ x.length) (hc : ck (x.take 12) = true) (hlen : x.length = 12 + sz (x.take 12)) :
    parse ck sz (hs ++ bs) = ⟨(x.take 12, x.drop 12) :: (parse ck sz (bs.drop n)).fs, (parse ck sz (bs.drop n)).rest, (parse ck sz (bs.drop n)).dead⟩ := by
  rw [← hx]
  have := parse_frame (ck := ck) (sz := sz) (x.take 12) (x.drop 12) (bs.drop n) (by simp; omega) hc (by simp; omega)
  rwa [List.take_append_drop] at this
end

abbrev FX : Type := (List Int × List Int) × Value
/-- frames' cells -/
def fcells (xs : List FX) : List Value := xs.flatMap fun x => frmL x.1.1 x.2
theorem fcells_length (xs : List FX) : (fcells xs).length = xs.length * 6 := by
  induction xs with
  | nil => rfl
  | cons x xs ih => simp only [fcells, List.flatMap_cons, List.length_append, List.length_cons] at *; rw [ih]; simp; omega
theorem fcells_append (xs ys : List FX) : fcells (xs ++ ys) = fcells xs ++ fcells ys := by simp [fcells]
theorem fcells_one (x : FX) : fcells [x] = frmL x.1.1 x.2 := by simp [fcells]
/-- a row of frames that is j's, their payloads too -/
def FramesO (own : Nat → Nat) (j : Nat) (w : World) (fv : Value) (fs : List (List Int × List Int)) : Prop :=
  ∃ xs : List FX, xs.map (·.1) = fs ∧ w.ownsRow 0 46 6 fv xs.length (fcells xs) ∧ (∀ k, fv.ownBlock = some k → own k = j) ∧ ∀ x ∈ xs, DataO own j w x.2 x.1.2
section
variable {own own' : Nat → Nat} {i j : Nat} {w w' : World}
theorem DataO.others {v : Value} {ns : List Int} (h : DataO own j w v ns) (hk : Keeps (fun k => own k = i) w w') (hij : j ≠ i) (he : ∀ k, k < w.heap.size → own' k = own k) : DataO own' j w' v ns :=
  ⟨owns_later h.1 hk (fun b hb e => hij ((h.2 b hb).symm.trans e)), fun k hk' => (he k (owns_lt h.1 k hk')).trans (h.2 k hk')⟩
theorem FramesO.none (own : Nat → Nat) (j : Nat) (w : World) : FramesO own j w (.slice none 0 0) [] := ⟨[], rfl, World.ownsRow_nil _ _ _ _, fun k hk => by simp [Value.ownBlock] at hk, fun x hx => by cases hx⟩
theorem FramesO.others {fv : Value} {fs : List (List Int × List Int)} (h : FramesO own j w fv fs) (hk : Keeps (fun k => own k = i) w w') (hij : j ≠ i) (he : ∀ k, k < w.heap.size → own' k = own k) : FramesO own' j w' fv fs := by
  obtain ⟨xs, h1, h2, h3, h4⟩ := h
  exact ⟨xs, h1, owns_later h2 hk (fun b hb e => hij ((h3 b hb).symm.trans e)), fun k hk' => (he k (owns_lt h2 k hk')).trans (h3 k hk'), fun x hx => (h4 x hx).others hk hij he⟩
theorem FramesO.shape {fv : Value} {fs : List (List Int × List Int)} (h : FramesO own j w fv fs) : ∃ q c, fv = .slice q fs.length c := by
  obtain ⟨xs, h1, h2, h3, h4⟩ := h
  obtain ⟨q, c, e⟩ := owns_val h2
  exact ⟨q, c, by rw [e, ← h1, List.length_map]⟩
theorem owns_owns {e e' : TypeId} {k k' n n' : Nat} {v v' : Value} {xs xs' : List Value} (h : w.ownsRow 0 e k v n xs) (h' : w.ownsRow 0 e' k' v' n' xs') (hne : e ≠ e') (b : Nat) (hb : v.ownBlock = some b) : v'.ownBlock ≠ some b := by
  intro hb'
  rcases h.2 with ⟨rfl, _⟩ | ⟨g, cap, cur, rfl, _, hg, _⟩
  · simp [Value.ownBlock] at hb
  rcases h'.2 with ⟨rfl, _⟩ | ⟨g', cap', cur', rfl, _, hg', _⟩
  · simp [Value.ownBlock] at hb'
  simp only [Value.ownBlock, Option.some.injEq] at hb hb'
  subst hb hb'
  rw [hg] at hg'
  injection hg' with hg'
  injection hg' with _ hg'
  exact hne hg'
/-- one frame more -/
theorem FramesO.push {fv v' : Value} {xs : List FX} {h d : List Int} {dv : Value} (h2 : w.ownsRow 0 46 6 fv xs.length (fcells xs)) (h3 : ∀ k, fv.ownBlock = some k → own k = j) (h4 : ∀ x ∈ xs, DataO own j w x.2 x.1.2) (hd : DataO own j w dv d)
    (o : w'.ownsRow 0 46 6 v' (xs.length + 1) (fcells xs ++ frmL h dv)) (k2 : Keeps (fun b => fv.ownBlock = some b) w w') (b2 : ∀ b, v'.ownBlock = some b → fv.ownBlock = some b ∨ w.heap.size ≤ b) :
    FramesO (give own w.heap.size j) j w' v' (xs.map (·.1) ++ [(h, d)]) := by
  have hdat : ∀ v ns, DataO own j w v ns → DataO (give own w.heap.size j) j w' v ns := fun v ns hx =>
    ⟨owns_later hx.1 k2 (fun b hb e => owns_owns hx.1 h2 (by decide) b hb e), fun k hk => (give_old (owns_lt hx.1 k hk)).trans (hx.2 k hk)⟩
  refine ⟨xs ++ [((h, d), dv)], by simp, ?_, fun k hk => ?_, fun x hx => ?_⟩
  · rw [fcells_append, fcells_one, List.length_append]
    exact o
  · rcases b2 k hk with e | e
    · exact (give_old (owns_lt h2 k e)).trans (h3 k e)
    · exact give_new e
  · rcases List.mem_append.1 hx with hx | hx
    · exact hdat _ _ (h4 x hx)
    · rw [List.mem_singleton] at hx
      subst hx
      exact hdat _ _ hd
/-- no two payloads lie in one block -/
def Apart6 (xs : List FX) : Prop := ∀ (t t' : Nat) (x x' : FX) (b : Nat), xs[t]? = some x → xs[t']? = some x' → x.2.ownBlock = some b → x'.2.ownBlock = some b → t = t'
theorem Apart6.nil : Apart6 [] := fun t t' x x' b h => by simp at h
theorem Apart6.join {xs ys : List FX} {base : Nat} (hx : Apart6 xs) (hy : Apart6 ys) (h1 : ∀ x ∈ xs, ∀ b, x.2.ownBlock = some b → b < base) (h2 : ∀ x ∈ ys, ∀ b, x.2.ownBlock = some b → base ≤ b) : Apart6 (xs ++ ys) := by
  intro t t' x x' b e e' f f'
  rcases Nat.lt_or_ge t xs.length with ht | ht
  · rw [List.getElem?_append_left ht] at e
    have g := h1 x (List.mem_of_getElem? e) b f
    rcases Nat.lt_or_ge t' xs.length with ht' | ht'
    · rw [List.getElem?_append_left ht'] at e'
      exact hx t t' x x' b e e' f f'
    · rw [List.getElem?_append_right ht'] at e'
      have g' := h2 x' (List.mem_of_getElem? e') b f'
      omega
  · rw [List.getElem?_append_right ht] at e
    have g := h2 x (List.mem_of_getElem? e) b f
    rcases Nat.lt_or_ge t' xs.length with ht' | ht'
    · rw [List.getElem?_append_left ht'] at e'
      have g' := h1 x' (List.mem_of_getElem? e') b f'
      omega
    · rw [List.getElem?_append_right ht'] at e'
      have := hy _ _ x x' b e e' f f'
      omega
/-- frames whose payloads lie in blocks of their own, from lo on, below base -/
def FramesE (own : Nat → Nat) (j : Nat) (w : World) (fv : Value) (fs : List (List Int × List Int)) (lo base : Nat) : Prop :=
  ∃ xs : List FX, xs.map (·.1) = fs ∧ w.ownsRow 0 46 6 fv xs.length (fcells xs) ∧ (∀ k, fv.ownBlock = some k → own k = j) ∧ (∀ x ∈ xs, DataO own j w x.2 x.1.2) ∧ Apart6 xs ∧ (∀ x ∈ xs, ∀ b, x.2.ownBlock = some b → lo ≤ b ∧ b < base) ∧ lo ≤ base
def FramesD (own : Nat → Nat) (j : Nat) (w : World) (fv : Value) (fs : List (List Int × List Int)) (lo : Nat) : Prop := FramesE own j w fv fs lo w.heap.size
theorem FramesE.o {fv : Value} {fs : List (List Int × List Int)} {lo base : Nat} (h : FramesE own j w fv fs lo base) : FramesO own j w fv fs := by
  obtain ⟨xs, h1, h2, h3, h4, _⟩ := h
  exact ⟨xs, h1, h2, h3, h4⟩
theorem FramesD.o {fv : Value} {fs : List (List Int × List Int)} {lo : Nat} (h : FramesD own j w fv fs lo) : FramesO own j w fv fs := FramesE.o h
theorem FramesE.low {fv : Value} {fs : List (List Int × List Int)} {lo base : Nat} (h : FramesE own j w fv fs lo base) (hl : lo ≤ w.heap.size) : FramesD own j w fv fs lo := by
  obtain ⟨xs, h1, h2, h3, h4, h5, h6, _⟩ := h
  exact ⟨xs, h1, h2, h3, h4, h5, fun x hx b hb => ⟨(h6 x hx b hb).1, owns_lt (h4 x hx).1 b hb⟩, hl⟩
theorem FramesE.others {fv : Value} {fs : List (List Int × List Int)} {lo base : Nat} (h : FramesE own j w fv fs lo base) (hk : Keeps (fun k => own k = i) w w') (hij : j ≠ i) (he : ∀ k, k < w.heap.size → own' k = own k) : FramesE own' j w' fv fs lo base := by
  obtain ⟨xs, h1, h2, h3, h4, h5⟩ := h
  exact ⟨xs, h1, owns_later h2 hk (fun b hb e => hij ((h3 b hb).symm.trans e)), fun k hk' => (he k (owns_lt h2 k hk')).trans (h3 k hk'), fun x hx => (h4 x hx).others hk hij he, h5⟩
theorem FramesD.others {fv : Value} {fs : List (List Int × List Int)} {lo : Nat} (h : FramesD own j w fv fs lo) (hk : Keeps (fun k => own k = i) w w') (hij : j ≠ i) (he : ∀ k, k < w.heap.size → own' k = own k) : FramesD own' j w' fv fs lo := by
  have hl : lo ≤ w.heap.size := by obtain ⟨xs, _, _, _, _, _, _, hl⟩ := h; exact hl
  exact (FramesE.others h hk hij he).low (Nat.le_trans hl hk.size)
theorem FramesD.quiet {fv : Value} {fs : List (List Int × List Int)} {lo : Nat} (h : FramesD own j w fv fs lo) (hk : Keeps Nowhere w w') : FramesD own j w' fv fs lo := by
  obtain ⟨xs, f1, f2, f3, f4, f5, f6, f7⟩ := h
  exact ⟨xs, f1, owns_later f2 hk (fun _ _ e => e), f3, fun x hx => ⟨owns_later (f4 x hx).1 hk (fun _ _ e => e), (f4 x hx).2⟩, f5, fun x hx b hb => ⟨(f6 x hx b hb).1, Nat.lt_of_lt_of_le (f6 x hx b hb).2 hk.size⟩, Nat.le_trans f7 hk.size⟩
theorem FramesD.none (own : Nat → Nat) (j : Nat) (w : World) {lo : Nat} (hl : lo ≤ w.heap.size) : FramesD own j w (.slice none 0 0) [] lo := ⟨[], rfl, World.ownsRow_nil _ _ _ _, fun k hk => by simp [Value.ownBlock] at hk, fun x hx => (by cases hx), Apart6.nil, fun x hx => (by cases hx), hl⟩
theorem FramesE.push {fv v' : Value} {xs : List FX} {h d : List Int} {dv : Value} {lo base : Nat} (h2 : w.ownsRow 0 46 6 fv xs.length (fcells xs)) (h3 : ∀ k, fv.ownBlock = some k → own k = j) (h4 : ∀ x ∈ xs, DataO own j w x.2 x.1.2) (h5 : Apart6 xs ∧ (∀ x ∈ xs, ∀ b, x.2.ownBlock = some b → lo ≤ b ∧ b < base) ∧ lo ≤ base) (hd : DataO own j w dv d) (hn : ∀ b, dv.ownBlock = some b → base ≤ b) (hl : lo ≤ w.heap.size)
    (o : w'.ownsRow 0 46 6 v' (xs.length + 1) (fcells xs ++ frmL h dv)) (k2 : Keeps (fun b => fv.ownBlock = some b) w w') (b2 : ∀ b, v'.ownBlock = some b → fv.ownBlock = some b ∨ w.heap.size ≤ b) :
    FramesD (give own w.heap.size j) j w' v' (xs.map (·.1) ++ [(h, d)]) lo := by
  have hdat : ∀ v ns, DataO own j w v ns → DataO (give own w.heap.size j) j w' v ns := fun v ns hx =>
    ⟨owns_later hx.1 k2 (fun b hb e => owns_owns hx.1 h2 (by decide) b hb e), fun k hk => (give_old (owns_lt hx.1 k hk)).trans (hx.2 k hk)⟩
  have hall : ∀ x ∈ xs ++ [((h, d), dv)], DataO (give own w.heap.size j) j w' x.2 x.1.2 := fun x hx => by
    rcases List.mem_append.1 hx with hx | hx
    · exact hdat _ _ (h4 x hx)
    · rw [List.mem_singleton] at hx
      subst hx
      exact hdat _ _ hd
  refine ⟨xs ++ [((h, d), dv)], by simp, ?_, fun k hk => ?_, hall, ?_, fun x hx b hb => ⟨?_, owns_lt (hall x hx).1 b hb⟩, Nat.le_trans hl k2.size⟩
  · rw [fcells_append, fcells_one, List.length_append]
    exact o
  · rcases b2 k hk with e | e
    · exact (give_old (owns_lt h2 k e)).trans (h3 k e)
    · exact give_new e
  · refine h5.1.join (base := base) (fun t t' x x' b e e' _ _ => ?_) (fun x hx b hb => (h5.2.1 x hx b hb).2) (fun x hx b hb => ?_)
    · have := (List.getElem?_eq_some_iff.1 e).1
      have := (List.getElem?_eq_some_iff.1 e').1
      simp at *
      omega
    · rw [List.mem_singleton] at hx
      subst hx
      exact hn b hb
  · rcases List.mem_append.1 hx with hx | hx
    · exact (h5.2.1 x hx b hb).1
    · rw [List.mem_singleton] at hx
      subst hx
      exact Nat.le_trans h5.2.2 (hn b hb)
end
theorem frameInfo : (Tryd.prog.info? 46).map (fun i => (i.zero, i.size, i.bytes)) = some (some (.agg zeroF.toArray), 6, 40) := by kernel_rfl
end Go.Proofs.YtjhjhmhhnifgmaaDoor

/-
  package feed: Feed.
-/
namespace Go.Proofs.YtjhjhmhhnifgmaaDoor
open Go.RowKit

abbrev prs (most : Int) (ns : List Int) : Out := parse (ckH most) szN ns
section
variable {A : Nat → Addr} {w0 : World} {own : Nat → Nat} {i j : Nat} {w w' : World} {p : Nat} {most : Int} {hs g : List Int}
theorem wantsI_live (hl : Live (ckH most) szN hs) (hb : AreBytes hs) (hg : 12 ≤ hs.length → g = hs.take 12) : wantsI hs.length (dT g) (dL g) = (wantsP szN hs : Int) := by
  unfold wantsI wantsP
  rcases hl with h | ⟨h1, h2, h3⟩
  · rw [if_pos (by omega), if_pos h]; omega
  · rw [if_neg (by omega), if_neg (by omega), hg h1, szH_nat (hb.take 12)]; omega
/-- Feed's world at the beginning of a round: x and whole are the slices, hs is held, bs is left, fs are the frames so far -/
structure FeedAt (A : Nat → Addr) (w0 : World) (own : Nat → Nat) (i j : Nat) (w : World) (p : Nat) (most : Int) (T : Out) (N : Nat) (own' : Nat → Nat) (W : World) (hs bs : List Int) (fs : List (List Int × List Int)) (x whole : Value) : Prop where
  G : Gr A w0 own' W
  ext : ∀ k, k < w.heap.size → own' k = own k
  K : Keeps (fun k => own k = i) w W
  D : ∃ g, DecM own' i W p most hs g ∧ (12 ≤ hs.length → g = hs.take 12)
  live : Live (ckH most) szN hs
  F : FramesD own' j W whole fs w.heap.size
  R : RdS (fun k => own k = i ∨ w.heap.size ≤ k) W x bs
  fr : ∀ k, whole.ownBlock = some k → w.heap.size ≤ k
  B : w0.heap.size ≤ w.heap.size
  b : AreBytes bs
  T : T = ⟨fs ++ (prs most (hs ++ bs)).fs, (prs most (hs ++ bs)).rest, (prs most (hs ++ bs)).dead⟩
  len : 12 * fs.length + hs.length + bs.length ≤ N
/-- the same in the middle of a round -/
structure MidAt (A : Nat → Addr) (w0 : World) (own : Nat → Nat) (i j : Nat) (w : World) (p : Nat) (most : Int) (own' : Nat → Nat) (W : World) (hs g bs : List Int) (fs : List (List Int × List Int)) (x whole : Value) : Prop where
  G : Gr A w0 own' W
  ext : ∀ k, k < w.heap.size → own' k = own k
  K : Keeps (fun k => own k = i) w W
  D : DecM own' i W p most hs g
  F : FramesD own' j W whole fs w.heap.size
  R : RdS (fun k => own k = i ∨ w.heap.size ≤ k) W x bs
  fr : ∀ k, whole.ownBlock = some k → w.heap.size ≤ k
  B : w0.heap.size ≤ w.heap.size
theorem MidAt.step {W W' : World} {own' own'' : Nat → Nat} {hs hs' g g' bs bs' : List Int} {fs : List (List Int × List Int)} {x x' whole : Value} (h : MidAt A w0 own i j w p most own' W hs g bs fs x whole) (hi : i ≠ 0) (hij : j ≠ i)
    (he : ∀ k, k < W.heap.size → own'' k = own' k) (hk : Keeps (fun k => own' k = i) W W') (D : DecM own'' i W' p most hs' g') (R : RdS (fun k => own k = i ∨ w.heap.size ≤ k) W' x' bs') : MidAt A w0 own i j w p most own'' W' hs' g' bs' fs x' whole :=
  ⟨h.G.step hk hi he, fun k hk' => (he k (Nat.lt_of_lt_of_le hk' h.K.size)).trans (h.ext k hk'), h.K.next hk (fun k e hk' => (h.ext k hk').symm.trans e), D, h.F.others hk hij he, R, h.fr, h.B⟩
theorem MidAt.quiet {W W' : World} {own' : Nat → Nat} {hs g bs : List Int} {fs : List (List Int × List Int)} {x whole : Value} (h : MidAt A w0 own i j w p most own' W hs g bs fs x whole) (hk : Keeps Nowhere W W') : MidAt A w0 own i j w p most own' W' hs g bs fs x whole := by
  exact ⟨h.G.quiet hk, h.ext, h.K.next hk (fun _ e _ => e.elim), h.D.quiet hk, h.F.quiet hk, (h.R.later (Keeps.any hk)).mono (fun _ e _ => .inl e), h.fr, h.B⟩
theorem MidAt.mine {W : World} {own' : Nat → Nat} {hs g bs : List Int} {fs : List (List Int × List Int)} {x whole : Value} (h : MidAt A w0 own i j w p most own' W hs g bs fs x whole) : ∀ k, own' k = i → own k = i ∨ w.heap.size ≤ k := fun k e => by
  rcases Nat.lt_or_ge k w.heap.size with hl | hl
  · exact .inl ((h.ext k hl).symm.trans e)
  · exact .inr hl
theorem MidAt.rlater {W W' : World} {own' : Nat → Nat} {hs g bs : List Int} {fs : List (List Int × List Int)} {x whole : Value} (h : MidAt A w0 own i j w p most own' W hs g bs fs x whole) (hk : Keeps (fun k => own' k = i) W W') : RdS (fun k => own k = i ∨ w.heap.size ≤ k) W' x bs :=
  (h.R.later (hk.mono (fun k e _ => h.mine k e))).mono (fun _ e _ => .inl e)
theorem FeedAt.mid {W : World} {own' : Nat → Nat} {hs bs : List Int} {T : Out} {N : Nat} {fs : List (List Int × List Int)} {x whole : Value} (h : FeedAt A w0 own i j w p most T N own' W hs bs fs x whole) : ∃ g, MidAt A w0 own i j w p most own' W hs g bs fs x whole ∧ (12 ≤ hs.length → g = hs.take 12) := by
  obtain ⟨g, d, hg⟩ := h.D
  exact ⟨g, ⟨h.G, h.ext, h.K, d, h.F, h.R, h.fr, h.B⟩, hg⟩
/-- take, in Feed's world -/
theorem take_f {W : World} {own' : Nat → Nat} {hs g bs : List Int} {fs : List (List Int × List Int)} {x whole : Value} (hi : i ≠ 0) (hij : j ≠ i) (h : MidAt A w0 own i j w p most own' W hs g bs fs x whole) (hb : AreBytes bs) (n : Nat) (hmin : min (bs.length : Int) (wantsI hs.length (dT g) (dL g)) = n) (hhs : hs.length ≤ 4294967400) (hbs : bs.length ≤ 140737488351232) :
    Calls Tryd.prog 18 #[dPtr p, x] W fun e W' => ∃ q l c own'', e = .returned (.slice q l c) ∧ Aside (l = bs.length - n ∧ MidAt A w0 own i j w p most own'' W' (hs ++ bs.take n) g (bs.drop n) fs (.slice q l c) whole) := by
  refine (take_m h.D x bs h.R h.mine hb n hmin hhs hbs).mono ?_
  rintro e W' ⟨y, own'', rfl, ⟨he, hr, hd, hk⟩⟩
  obtain ⟨q, c, rfl, _⟩ := hr.shape
  exact ⟨q, _, c, own'', rfl, ⟨by simp, h.step hi hij he hk hd (hr.mono (fun _ e _ => .inl e))⟩⟩
theorem wants_f {W : World} {own' : Nat → Nat} {hs g bs : List Int} {fs : List (List Int × List Int)} {x whole : Value} (h : MidAt A w0 own i j w p most own' W hs g bs fs x whole) (hn : hs.length ≤ 4294967400) (z : Int) (hz : wantsI hs.length (dT g) (dL g) = z) :
    Calls Tryd.prog 12 #[dPtr p] W fun e W' => e = .returned (.int .i64 z) ∧ Aside (MidAt A w0 own i j w p most own' W' hs g bs fs x whole) := by
  refine (wants_m h.D hn).mono ?_
  rintro e W' ⟨rfl, hk⟩
  exact ⟨by rw [hz], ⟨h.quiet hk⟩⟩
theorem judge_f {W : World} {own' : Nat → Nat} {hs g bs : List Int} {fs : List (List Int × List Int)} {x whole : Value} (hi : i ≠ 0) (hij : j ≠ i) (h : MidAt A w0 own i j w p most own' W hs g bs fs x whole) (hlen : hs.length = 12) (hck : ckH most hs = true) :
    Calls Tryd.prog 19 #[dPtr p] W fun e W' => ∃ own'', e = .returned (.bool true) ∧ Aside (MidAt A w0 own i j w p most own'' W' hs hs bs fs x whole) := by
  refine (judge_m j h.G hi h.D hlen).mono ?_
  rintro e W' ⟨rfl, ⟨own'', he, hk, hor⟩⟩
  rw [hck] at hor ⊢
  rcases hor with ⟨_, d⟩ | ⟨e, _⟩
  · exact ⟨own'', rfl, ⟨h.step hi hij he hk d (h.rlater hk)⟩⟩
  · cases e
/-- behind a header that may not be -/
structure DiedAt (A : Nat → Addr) (w0 : World) (own : Nat → Nat) (i j : Nat) (w : World) (p : Nat) (most : Int) (own' : Nat → Nat) (W : World) (h : List Int) (fs : List (List Int × List Int)) (whole : Value) : Prop where
  G : Gr A w0 own' W
  ext : ∀ k, k < w.heap.size → own' k = own k
  K : Keeps (fun k => own k = i) w W
  D : DeadM A own' i j W p most h
  fr : ∀ k, whole.ownBlock = some k → w.heap.size ≤ k
  F : FramesD own' j W whole fs w.heap.size
theorem judge_bad {W : World} {own' : Nat → Nat} {hs g bs : List Int} {fs : List (List Int × List Int)} {x whole : Value} (hi : i ≠ 0) (hij : j ≠ i) (h : MidAt A w0 own i j w p most own' W hs g bs fs x whole) (hlen : hs.length = 12) (hck : ckH most hs = false) :
    Calls Tryd.prog 19 #[dPtr p] W fun e W' => ∃ own'', e = .returned (.bool false) ∧ Aside (DiedAt A w0 own i j w p most own'' W' hs fs whole) := by
  refine (judge_m j h.G hi h.D hlen).mono ?_
  rintro e W' ⟨rfl, ⟨own'', he, hk, hor⟩⟩
  rw [hck] at hor ⊢
  rcases hor with ⟨e, _⟩ | ⟨_, d⟩
  · cases e
  · exact ⟨own'', rfl, ⟨h.G.step hk hi he, fun k hk' => (he k (Nat.lt_of_lt_of_le hk' h.K.size)).trans (h.ext k hk'), h.K.next hk (fun k e hk' => (h.ext k hk').symm.trans e), d, h.fr, h.F.others hk hij he⟩⟩
theorem letGo_f {W : World} {own' : Nat → Nat} {hs g bs : List Int} {fs : List (List Int × List Int)} {x whole : Value} (hi : i ≠ 0) (hij : j ≠ i) (h : MidAt A w0 own i j w p most own' W hs g bs fs x whole) (h12 : 12 ≤ hs.length) (hlen : hs.length ≤ 4294967400) :
    Calls Tryd.prog 20 #[dPtr p] W fun e W' => ∃ q l c own'', e = .returned (frmH g (.slice q l c)) ∧ Aside (MidAt A w0 own i j w p most own'' W' [] g bs fs x whole ∧ DataO own'' j W' (.slice q l c) (hs.drop 12) ∧ FramesE own'' j W' whole fs w.heap.size W.heap.size ∧ ∀ b, (Value.slice q l c).ownBlock = some b → W.heap.size ≤ b) := by
  refine (letGo_m (j := j) h.D h12 hlen).mono ?_
  rintro e W' ⟨q, l, c, rfl, ⟨hk, d, hd, hf⟩⟩
  exact ⟨q, l, c, _, rfl, ⟨h.step hi hij (fun k hk => give_old hk) hk d (h.rlater hk), hd, FramesE.others h.F hk hij (fun k hk => give_old hk), hf⟩⟩
theorem MidAt.held {W : World} {own' : Nat → Nat} {hs g bs : List Int} {fs : List (List Int × List Int)} {x whole : Value} (h : MidAt A w0 own i j w p most own' W hs g bs fs x whole) {n : Nat} (hn : hs.length = n) : ∃ q c, W.cell? ⟨p, 1, none⟩ = some (.slice q n c) := by
  obtain ⟨hv, d, _⟩ := h.D.d
  obtain ⟨q, c, rfl⟩ := owns_val d.r
  exact ⟨q, c, by rw [← hn]; exact d.c.cell 1⟩
/-- one frame more behind those so far -/
theorem pushed {W W' : World} {ob : Obj} {own' : Nat → Nat} {h12 g d bs : List Int} {fs : List (List Int × List Int)} {x whole v' dv : Value} {xs : List FX} (hij : j ≠ i) (m : MidAt A w0 own i j w p most own' W [] g bs fs x whole) (hd : DataO own' j W dv d) (y1 : xs.map (·.1) = fs)
    (y2 : W.ownsRow 0 46 6 whole xs.length (fcells xs)) (y3 : ∀ k, whole.ownBlock = some k → own' k = j) (y4 : ∀ x ∈ xs, DataO own' j W x.2 x.1.2) {base : Nat} (y5 : Apart6 xs ∧ (∀ x ∈ xs, ∀ b, x.2.ownBlock = some b → w.heap.size ≤ b ∧ b < base) ∧ w.heap.size ≤ base) (hn : ∀ b, dv.ownBlock = some b → base ≤ b)
    (o : W'.ownsRow 0 46 6 v' (xs.length + 1) (fcells xs ++ frmL g dv)) (k2 : Keeps (fun b => whole.ownBlock = some b) (W.alloc ob) W') (b2 : ∀ b, v'.ownBlock = some b → whole.ownBlock = some b ∨ (W.alloc ob).heap.size ≤ b) (hg : g = h12) :
    MidAt A w0 own i j w p most (give own' W.heap.size j) W' [] g bs (fs ++ [(h12, d)]) x v' := by
  have kA : Keeps (fun b => whole.ownBlock = some b) W W' := ((Keeps.refl _ _).alloc ob).next k2 (fun k e _ => e)
  have hsz : W.heap.size ≤ (W.alloc ob).heap.size := by simp
  have b3 : ∀ b, v'.ownBlock = some b → whole.ownBlock = some b ∨ W.heap.size ≤ b := fun b hb => (b2 b hb).imp id (fun e => Nat.le_trans hsz e)
  have he : ∀ k, k < W.heap.size → give own' W.heap.size j k = own' k := fun k hk => give_old hk
  have F := FramesE.push y2 y3 y4 y5 hd hn m.K.size o kA b3
  subst y1 hg
  refine ⟨⟨m.G.b, fun k hk => ?_, ?_, Nat.le_trans m.G.g.size kA.size⟩, fun k hk => (he k (Nat.lt_of_lt_of_le hk m.K.size)).trans (m.ext k hk), m.K.next kA (fun k e hk => absurd (m.fr k e) (by omega)), ?_, F, ?_, fun k hk => ?_, m.B⟩
  · rw [he k (by have := m.G.g.size; omega)]; exact m.G.g.zero k hk
  · refine below_next m.G.g.bel kA m.G.g.size (fun k e _ => ?_)
    exact Nat.le_trans m.B (m.fr k e)
  · obtain ⟨hp, ⟨hv, dd, ho⟩, hb, hgb⟩ := m.D
    have hpl := dd.c.lt
    refine ⟨(he p hpl).trans hp, ⟨hv, ⟨dd.c.later kA (fun e => hij ((y3 p e).symm.trans hp)), owns_later dd.r kA (fun b hb e => hij ((y3 b e).symm.trans (ho b hb)))⟩, fun k hk => (he k (owns_lt dd.r k hk)).trans (ho k hk)⟩, hb, hgb⟩
  · exact ((m.R.mono (S' := fun k => own k = i ∨ w.heap.size ≤ k) (fun k e _ => e)).later (kA.mono (fun k e _ => .inr (m.fr k e)))).mono (fun _ e _ => .inl e)
  · rcases b3 k hk with e | e
    · exact m.fr k e
    · exact Nat.le_trans m.K.size e
end
end Go.Proofs.YtjhjhmhhnifgmaaDoor

/-
  package feed: Feed, walked.
-/
namespace Go.Proofs.YtjhjhmhhnifgmaaDoor
open Go.RowKit

def slen : Value → Nat
  | .slice _ l _ => l
  | _ => 0
/-- a dead decoder, whose violation lies in vb -/
structure DeadV (A : Nat → Addr) (own : Nat → Nat) (i j : Nat) (w : World) (p : Nat) (most : Int) (h : List Int) (vb : Nat) : Prop where
  hp : own p = i
  c : ∃ g, Cells w p 55 (decL most (.slice none 0 0) (dV g) (dT g) (dF g) (dS g) (dL g) (dPtr vb))
  v : VioAt A own j w most h vb
/-- a decoder that lives -/
structure DecL (own : Nat → Nat) (i : Nat) (w : World) (p : Nat) (most : Int) (hs : List Int) : Prop where
  d : ∃ g, DecM own i w p most hs g ∧ (12 ≤ hs.length → g = hs.take 12)
  l : Live (ckH most) szN hs
/-- a decoder -/
def DecS (A : Nat → Addr) (own : Nat → Nat) (i j : Nat) (w : World) (p : Nat) (most : Int) (hs : List Int) (dead : Option (List Int)) : Prop :=
  match dead with
  | none => DecL own i w p most hs
  | some h => ∃ vb, DeadV A own i j w p most h vb
/-- the error that tells of its death -/
def ErrS (A : Nat → Addr) (own : Nat → Nat) (j : Nat) (w : World) (most : Int) (ev : Value) (dead : Option (List Int)) : Prop :=
  match dead with
  | none => ev = .nilIface
  | some h => ∃ vb, ev = vio vb ∧ VioAt A own j w most h vb
/-- what Feed has done -/
structure Fed (A : Nat → Addr) (w0 : World) (own : Nat → Nat) (i j : Nat) (w : World) (p : Nat) (most : Int) (o : Out) (own' : Nat → Nat) (W : World) (fv ev : Value) : Prop where
  G : Gr A w0 own' W
  ext : ∀ k, k < w.heap.size → own' k = own k
  K : Keeps (fun k => own k = i) w W
  F : FramesO own' j W fv o.fs
  N : FramesD own' j W fv o.fs w.heap.size ∧ ∀ k, fv.ownBlock = some k → w.heap.size ≤ k
  D : DecS A own' i j W p most o.rest o.dead
  E : ErrS A own' j W most ev o.dead

section
variable {A : Nat → Addr} {w0 : World} {own : Nat → Nat} {i j : Nat} {w w' : World} {p : Nat} {most : Int} {hs : List Int}
theorem VioAt.quiet {h : List Int} {vb : Nat} (hv : VioAt A own j w most h vb) (hk : Keeps Nowhere w w') : VioAt A own j w' most h vb := by
  obtain ⟨a, k, b, c, d, e⟩ := hv
  exact ⟨a, k, b, c, d, e.later hk (fun x => x)⟩
theorem FramesO.quiet {fv : Value} {fs : List (List Int × List Int)} (h : FramesO own j w fv fs) (hk : Keeps Nowhere w w') : FramesO own j w' fv fs := by
  obtain ⟨xs, f1, f2, f3, f4⟩ := h
  exact ⟨xs, f1, owns_later f2 hk (fun _ _ e => e), f3, fun x hx => ⟨owns_later (f4 x hx).1 hk (fun _ _ e => e), (f4 x hx).2⟩⟩
theorem DecL.quiet (h : DecL own i w p most hs) (hk : Keeps Nowhere w w') : DecL own i w' p most hs := by
  obtain ⟨⟨g, d, hg⟩, l⟩ := h
  exact ⟨⟨g, d.quiet hk, hg⟩, l⟩
theorem drewN_keeps (w : World) (n : Nat) : Keeps Nowhere w (w.drewN n) := (Keeps.refl _ _).drewN n
/-- the end, alive -/
theorem FeedAt.fin {W : World} {own' : Nat → Nat} {T : Out} {N : Nat} {fs : List (List Int × List Int)} {x whole : Value} (h : FeedAt A w0 own i j w p most T N own' W hs [] fs x whole) (n : Nat) : Fed A w0 own i j w p most T own' (W.drewN n) whole .nilIface := by
  have hT := h.T
  rw [List.append_nil, prs, h.live.parse] at hT
  subst hT
  obtain ⟨g, d, hg⟩ := h.D
  exact ⟨h.G.quiet (drewN_keeps _ _), h.ext, h.K.drewN n, by simpa using (h.F.quiet (drewN_keeps W n)).o, ⟨by simpa using h.F.quiet (drewN_keeps W n), h.fr⟩, ⟨⟨g, d.quiet (drewN_keeps _ _), hg⟩, h.live⟩, rfl⟩
/-- the end, dead -/
theorem DiedAt.fin {W : World} {own' : Nat → Nat} {h : List Int} {fs : List (List Int × List Int)} {whole : Value} {vb : Nat} (hd : DiedAt A w0 own i j w p most own' W h fs whole) (n : Nat) (hp : own' p = i) (c : ∃ g, Cells W p 55 (decL most (.slice none 0 0) (dV g) (dT g) (dF g) (dS g) (dL g) (dPtr vb))) (v : VioAt A own' j W most h vb) (o : Out)
    (h1 : o.fs = fs) (h3 : o.dead = some h) : Fed A w0 own i j w p most o own' (W.drewN n) whole (vio vb) := by
  obtain ⟨ofs, orest, odead⟩ := o
  simp only at h1 h3
  subst h1 h3
  exact ⟨hd.G.quiet (drewN_keeps _ _), hd.ext, hd.K.drewN n, (hd.F.quiet (drewN_keeps _ _)).o, ⟨hd.F.quiet (drewN_keeps _ _), hd.fr⟩, ⟨vb, hp, c, v.quiet (drewN_keeps _ _)⟩, ⟨vb, rfl, v.quiet (drewN_keeps _ _)⟩⟩
/-- one round that goes on -/
theorem FeedAt.on {W W' : World} {own' own'' : Nat → Nat} {T : Out} {N n : Nat} {g hs bs : List Int} {fs : List (List Int × List Int)} {x x' whole : Value} (h : FeedAt A w0 own i j w p most T N own' W hs bs fs x whole) (hn : n ≤ bs.length)
    (m : MidAt A w0 own i j w p most own'' W' (hs ++ bs.take n) g (bs.drop n) fs x' whole) (hl : Live (ckH most) szN (hs ++ bs.take n)) (hg : 12 ≤ (hs ++ bs.take n).length → g = (hs ++ bs.take n).take 12) : FeedAt A w0 own i j w p most T N own'' W' (hs ++ bs.take n) (bs.drop n) fs x' whole := by
  refine ⟨m.G, m.ext, m.K, ⟨g, m.D, hg⟩, hl, m.F, m.R, m.fr, m.B, h.b.drop n, ?_, ?_⟩
  · rw [round_same]; exact h.T
  · have := h.len
    rw [round_len hs bs hn]
    simp
    omega
/-- one round that gives a frame -/
theorem FeedAt.give {W W' : World} {own' own'' : Nat → Nat} {T : Out} {N n : Nat} {g hs bs : List Int} {fs : List (List Int × List Int)} {x x' whole whole' : Value} (h : FeedAt A w0 own i j w p most T N own' W hs bs fs x whole) (hn : n ≤ bs.length)
    (m : MidAt A w0 own i j w p most own'' W' [] g (bs.drop n) (fs ++ [((hs ++ bs.take n).take 12, (hs ++ bs.take n).drop 12)]) x' whole') (h12 : 12 ≤ (hs ++ bs.take n).length) (hc : ckH most ((hs ++ bs.take n).take 12) = true) (hlen : (hs ++ bs.take n).length = 12 + szN ((hs ++ bs.take n).take 12)) :
    FeedAt A w0 own i j w p most T N own'' W' [] (bs.drop n) (fs ++ [((hs ++ bs.take n).take 12, (hs ++ bs.take n).drop 12)]) x' whole' := by
  refine ⟨m.G, m.ext, m.K, ⟨g, m.D, fun h => by simp at h⟩, Live.nil, m.F, m.R, m.fr, m.B, h.b.drop n, ?_, ?_⟩
  · have := h.T
    rw [prs, round_frame (n := n) (hs ++ bs.take n) (round_same hs bs n) h12 hc hlen] at this
    rw [this]
    simp
  · have := h.len
    have e := round_len hs bs hn
    simp only [List.length_append, List.length_singleton, List.length_nil, List.length_drop] at *
    omega
end
end Go.Proofs.YtjhjhmhhnifgmaaDoor

