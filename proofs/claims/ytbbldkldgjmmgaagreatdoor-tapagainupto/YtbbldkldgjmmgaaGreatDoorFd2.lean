import Derived.Test.YtbbldkldgjmmgaaGreatDoorFd1
/-
  package feed: frames in memory; what one round of Feed does to the bytes.
-/
namespace Go.Proofs.YtbbldkldgjmmgaaGreatDoor
open Go.RowKit

section
variable {ck : List Int → Bool} {sz : List Int → Nat} {hs bs : List Int} {n : Nat}
theorem round_same (hs bs : List Int) (n : Nat) : (hs ++ bs.take n) ++ bs.drop n = hs ++ bs := by rw [List.append_assoc, List.take_append_drop]
theorem round_len (hs bs : List Int) (hn : n ≤ bs.length) : (hs ++ bs.take n).length = hs.length + n := by simp; omega
theorem round_12 (hn : n ≤ bs.length) (h0 : 0 < n) (h : (hs ++ bs.take n).length = 12) : hs.length < 12 := by
  rw [round_len hs bs hn] at h
  omega
theorem round_more (hl : Live ck sz hs) (hn : n ≤ bs.length) (hw : n ≤ wantsP sz hs) (h : 12 < (hs ++ bs.take n).length) :
    12 ≤ hs.length ∧ (hs ++ bs.take n).take 12 = hs.take 12 ∧ ck (hs.take 12) = true ∧ (hs ++ bs.take n).length ≤ 12 + sz (hs.take 12) := by
  rw [round_len hs bs hn] at *
  unfold wantsP at hw
  rcases hl with hl | ⟨h1, h2, h3⟩
  · rw [if_pos hl] at hw; omega
  · rw [if_neg (by omega)] at hw
    exact ⟨h1, by rw [List.take_append_of_le_length h1], h2, by omega⟩
/-- a round ends with a header that may not be -/
theorem round_dead (h : (hs ++ bs.take n).length = 12) (hc : ck (hs ++ bs.take n) = false) : parse ck sz (hs ++ bs) = ⟨[], [], some (hs ++ bs.take n)⟩ := by
  rw [← round_same hs bs n]
  exact parse_dead _ _ h hc
/-- a round ends with a whole frame -/
theorem round_frame (x : List Int) (hx : x ++ bs.drop n = hs ++ bs) (h12 : 12 ≤ x.length) (hc : ck (x.take 12) = true) (hlen : x.length = 12 + sz (x.take 12)) :
    parse ck sz (hs ++ bs) = ⟨(x.take 12, x.drop 12) :: (parse ck sz (bs.drop n)).fs, (parse ck sz (bs.drop n)).rest, (parse ck sz (bs.drop n)).dead⟩ := by
  rw [← hx]
  have := parse_frame (ck := ck) (sz := sz) (x.take 12) (x.drop 12) (bs.drop n) (by simp; omega) hc (by simp; omega)
  rwa [List.take_append_drop] at this
end

abbrev FX : Type := (List Int × List Int) × Value
/-- frames' cells -/
def fcells (xs : List FX) : List Value := xs.flatMap fun x => frmL x.1.1 x.2
theorem fcells_length (xs : List FX) : (fcells xs).length = xs.length * 6 := by
  induction xs with
  | nil => rfl
  | cons x xs ih => simp only [fcells, List.flatMap_cons, List.length_append, List.length_cons] at *; rw [ih]; simp; omega
theorem fcells_append (xs ys : List FX) : fcells (xs ++ ys) = fcells xs ++ fcells ys := by simp [fcells]
theorem fcells_one (x : FX) : fcells [x] = frmL x.1.1 x.2 := by simp [fcells]
/-- a row of frames that is j's, their payloads too -/
def FramesO (own : Nat → Nat) (j : Nat) (w : World) (fv : Value) (fs : List (List Int × List Int)) : Prop :=
  ∃ xs : List FX, xs.map (·.1) = fs ∧ w.ownsRow 0 34 6 fv xs.length (fcells xs) ∧ (∀ k, fv.ownBlock = some k → own k = j) ∧ ∀ x ∈ xs, DataO own j w x.2 x.1.2
section
variable {own own' : Nat → Nat} {i j : Nat} {w w' : World}
theorem DataO.others {v : Value} {ns : List Int} (h : DataO own j w v ns) (hk : Keeps (fun k => own k = i) w w') (hij : j ≠ i) (he : ∀ k, k < w.heap.size → own' k = own k) : DataO own' j w' v ns :=
  ⟨owns_later h.1 hk (fun b hb e => hij ((h.2 b hb).symm.trans e)), fun k hk' => (he k (owns_lt h.1 k hk')).trans (h.2 k hk')⟩
theorem FramesO.none (own : Nat → Nat) (j : Nat) (w : World) : FramesO own j w (.slice none 0 0) [] := ⟨[], rfl, World.ownsRow_nil _ _ _ _, fun k hk => by simp [Value.ownBlock] at hk, fun x hx => by cases hx⟩
theorem FramesO.others {fv : Value} {fs : List (List Int × List Int)} (h : FramesO own j w fv fs) (hk : Keeps (fun k => own k = i) w w') (hij : j ≠ i) (he : ∀ k, k < w.heap.size → own' k = own k) : FramesO own' j w' fv fs := by
  obtain ⟨xs, h1, h2, h3, h4⟩ := h
  exact ⟨xs, h1, owns_later h2 hk (fun b hb e => hij ((h3 b hb).symm.trans e)), fun k hk' => (he k (owns_lt h2 k hk')).trans (h3 k hk'), fun x hx => (h4 x hx).others hk hij he⟩
theorem FramesO.shape {fv : Value} {fs : List (List Int × List Int)} (h : FramesO own j w fv fs) : ∃ q c, fv = .slice q fs.length c := by
  obtain ⟨xs, h1, h2, h3, h4⟩ := h
  obtain ⟨q, c, e⟩ := owns_val h2
  exact ⟨q, c, by rw [e, ← h1, List.length_map]⟩
theorem owns_owns {e e' : TypeId} {k k' n n' : Nat} {v v' : Value} {xs xs' : List Value} (h : w.ownsRow 0 e k v n xs) (h' : w.ownsRow 0 e' k' v' n' xs') (hne : e ≠ e') (b : Nat) (hb : v.ownBlock = some b) : v'.ownBlock ≠ some b := by
  intro hb'
  rcases h.2 with ⟨rfl, _⟩ | ⟨g, cap, cur, rfl, _, hg, _⟩
  · simp [Value.ownBlock] at hb
  rcases h'.2 with ⟨rfl, _⟩ | ⟨g', cap', cur', rfl, _, hg', _⟩
  · simp [Value.ownBlock] at hb'
  simp only [Value.ownBlock, Option.some.injEq] at hb hb'
  subst hb hb'
  rw [hg] at hg'
  injection hg' with hg'
  injection hg' with _ hg'
  exact hne hg'
/-- one frame more -/
theorem FramesO.push {fv v' : Value} {xs : List FX} {h d : List Int} {dv : Value} (h2 : w.ownsRow 0 34 6 fv xs.length (fcells xs)) (h3 : ∀ k, fv.ownBlock = some k → own k = j) (h4 : ∀ x ∈ xs, DataO own j w x.2 x.1.2) (hd : DataO own j w dv d)
    (o : w'.ownsRow 0 34 6 v' (xs.length + 1) (fcells xs ++ frmL h dv)) (k2 : Keeps (fun b => fv.ownBlock = some b) w w') (b2 : ∀ b, v'.ownBlock = some b → fv.ownBlock = some b ∨ w.heap.size ≤ b) :
    FramesO (give own w.heap.size j) j w' v' (xs.map (·.1) ++ [(h, d)]) := by
  have hdat : ∀ v ns, DataO own j w v ns → DataO (give own w.heap.size j) j w' v ns := fun v ns hx =>
    ⟨owns_later hx.1 k2 (fun b hb e => owns_owns hx.1 h2 (by decide) b hb e), fun k hk => (give_old (owns_lt hx.1 k hk)).trans (hx.2 k hk)⟩
  refine ⟨xs ++ [((h, d), dv)], by simp, ?_, fun k hk => ?_, fun x hx => ?_⟩
  · rw [fcells_append, fcells_one, List.length_append]
    exact o
  · rcases b2 k hk with e | e
    · exact (give_old (owns_lt h2 k e)).trans (h3 k e)
    · exact give_new e
  · rcases List.mem_append.1 hx with hx | hx
    · exact hdat _ _ (h4 x hx)
    · rw [List.mem_singleton] at hx
      subst hx
      exact hdat _ _ hd
/-- no two payloads lie in one block -/
def Apart6 (xs : List FX) : Prop := ∀ (t t' : Nat) (x x' : FX) (b : Nat), xs[t]? = some x → xs[t']? = some x' → x.2.ownBlock = some b → x'.2.ownBlock = some b → t = t'
theorem Apart6.nil : Apart6 [] := fun t t' x x' b h => by simp at h
theorem Apart6.join {xs ys : List FX} {base : Nat} (hx : Apart6 xs) (hy : Apart6 ys) (h1 : ∀ x ∈ xs, ∀ b, x.2.ownBlock = some b → b < base) (h2 : ∀ x ∈ ys, ∀ b, x.2.ownBlock = some b → base ≤ b) : Apart6 (xs ++ ys) := by
  intro t t' x x' b e e' f f'
  rcases Nat.lt_or_ge t xs.length with ht | ht
  · rw [List.getElem?_append_left ht] at e
    have g := h1 x (List.mem_of_getElem? e) b f
    rcases Nat.lt_or_ge t' xs.length with ht' | ht'
    · rw [List.getElem?_append_left ht'] at e'
      exact hx t t' x x' b e e' f f'
    · rw [List.getElem?_append_right ht'] at e'
      have g' := h2 x' (List.mem_of_getElem? e') b f'
      omega
  · rw [List.getElem?_append_right ht] at e
    have g := h2 x (List.mem_of_getElem? e) b f
    rcases Nat.lt_or_ge t' xs.length with ht' | ht'
    · rw [List.getElem?_append_left ht'] at e'
      have g' := h1 x' (List.mem_of_getElem? e') b f'
      omega
    · rw [List.getElem?_append_right ht'] at e'
      have := hy _ _ x x' b e e' f f'
      omega
/-- frames whose payloads lie in blocks of their own, from lo on, below base -/
def FramesE (own : Nat → Nat) (j : Nat) (w : World) (fv : Value) (fs : List (List Int × List Int)) (lo base : Nat) : Prop :=
  ∃ xs : List FX, xs.map (·.1) = fs ∧ w.ownsRow 0 34 6 fv xs.length (fcells xs) ∧ (∀ k, fv.ownBlock = some k → own k = j) ∧ (∀ x ∈ xs, DataO own j w x.2 x.1.2) ∧ Apart6 xs ∧ (∀ x ∈ xs, ∀ b, x.2.ownBlock = some b → lo ≤ b ∧ b < base) ∧ lo ≤ base
def FramesD (own : Nat → Nat) (j : Nat) (w : World) (fv : Value) (fs : List (List Int × List Int)) (lo : Nat) : Prop := FramesE own j w fv fs lo w.heap.size
theorem FramesE.o {fv : Value} {fs : List (List Int × List Int)} {lo base : Nat} (h : FramesE own j w fv fs lo base) : FramesO own j w fv fs := by
  obtain ⟨xs, h1, h2, h3, h4, _⟩ := h
  exact ⟨xs, h1, h2, h3, h4⟩
theorem FramesD.o {fv : Value} {fs : List (List Int × List Int)} {lo : Nat} (h : FramesD own j w fv fs lo) : FramesO own j w fv fs := FramesE.o h
theorem FramesE.low {fv : Value} {fs : List (List Int × List Int)} {lo base : Nat} (h : FramesE own j w fv fs lo base) (hl : lo ≤ w.heap.size) : FramesD own j w fv fs lo := by
  obtain ⟨xs, h1, h2, h3, h4, h5, h6, _⟩ := h
  exact ⟨xs, h1, h2, h3, h4, h5, fun x hx b hb => ⟨(h6 x hx b hb).1, owns_lt (h4 x hx).1 b hb⟩, hl⟩
theorem FramesE.others {fv : Value} {fs : List (List Int × List Int)} {lo base : Nat} (h : FramesE own j w fv fs lo base) (hk : Keeps (fun k => own k = i) w w') (hij : j ≠ i) (he : ∀ k, k < w.heap.size → own' k = own k) : FramesE own' j w' fv fs lo base := by
  obtain ⟨xs, h1, h2, h3, h4, h5⟩ := h
  exact ⟨xs, h1, owns_later h2 hk (fun b hb e => hij ((h3 b hb).symm.trans e)), fun k hk' => (he k (owns_lt h2 k hk')).trans (h3 k hk'), fun x hx => (h4 x hx).others hk hij he, h5⟩
theorem FramesD.others {fv : Value} {fs : List (List Int × List Int)} {lo : Nat} (h : FramesD own j w fv fs lo) (hk : Keeps (fun k => own k = i) w w') (hij : j ≠ i) (he : ∀ k, k < w.heap.size → own' k = own k) : FramesD own' j w' fv fs lo := by
  have hl : lo ≤ w.heap.size := by obtain ⟨xs, _, _, _, _, _, _, hl⟩ := h; exact hl
  exact (FramesE.others h hk hij he).low (Nat.le_trans hl hk.size)
theorem FramesD.quiet {fv : Value} {fs : List (List Int × List Int)} {lo : Nat} (h : FramesD own j w fv fs lo) (hk : Keeps Nowhere w w') : FramesD own j w' fv fs lo := by
  obtain ⟨xs, f1, f2, f3, f4, f5, f6, f7⟩ := h
  exact ⟨xs, f1, owns_later f2 hk (fun _ _ e => e), f3, fun x hx => ⟨owns_later (f4 x hx).1 hk (fun _ _ e => e), (f4 x hx).2⟩, f5, fun x hx b hb => ⟨(f6 x hx b hb).1, Nat.lt_of_lt_of_le (f6 x hx b hb).2 hk.size⟩, Nat.le_trans f7 hk.size⟩
theorem FramesD.none (own : Nat → Nat) (j : Nat) (w : World) {lo : Nat} (hl : lo ≤ w.heap.size) : FramesD own j w (.slice none 0 0) [] lo := ⟨[], rfl, World.ownsRow_nil _ _ _ _, fun k hk => by simp [Value.ownBlock] at hk, fun x hx => (by cases hx), Apart6.nil, fun x hx => (by cases hx), hl⟩
theorem FramesE.push {fv v' : Value} {xs : List FX} {h d : List Int} {dv : Value} {lo base : Nat} (h2 : w.ownsRow 0 34 6 fv xs.length (fcells xs)) (h3 : ∀ k, fv.ownBlock = some k → own k = j) (h4 : ∀ x ∈ xs, DataO own j w x.2 x.1.2) (h5 : Apart6 xs ∧ (∀ x ∈ xs, ∀ b, x.2.ownBlock = some b → lo ≤ b ∧ b < base) ∧ lo ≤ base) (hd : DataO own j w dv d) (hn : ∀ b, dv.ownBlock = some b → base ≤ b) (hl : lo ≤ w.heap.size)
    (o : w'.ownsRow 0 34 6 v' (xs.length + 1) (fcells xs ++ frmL h dv)) (k2 : Keeps (fun b => fv.ownBlock = some b) w w') (b2 : ∀ b, v'.ownBlock = some b → fv.ownBlock = some b ∨ w.heap.size ≤ b) :
    FramesD (give own w.heap.size j) j w' v' (xs.map (·.1) ++ [(h, d)]) lo := by
  have hdat : ∀ v ns, DataO own j w v ns → DataO (give own w.heap.size j) j w' v ns := fun v ns hx =>
    ⟨owns_later hx.1 k2 (fun b hb e => owns_owns hx.1 h2 (by decide) b hb e), fun k hk => (give_old (owns_lt hx.1 k hk)).trans (hx.2 k hk)⟩
  have hall : ∀ x ∈ xs ++ [((h, d), dv)], DataO (give own w.heap.size j) j w' x.2 x.1.2 := fun x hx => by
    rcases List.mem_append.1 hx with hx | hx
    · exact hdat _ _ (h4 x hx)
    · rw [List.mem_singleton] at hx
      subst hx
      exact hdat _ _ hd
  refine ⟨xs ++ [((h, d), dv)], by simp, ?_, fun k hk => ?_, hall, ?_, fun x hx b hb => ⟨?_, owns_lt (hall x hx).1 b hb⟩, Nat.le_trans hl k2.size⟩
  · rw [fcells_append, fcells_one, List.length_append]
    exact o
  · rcases b2 k hk with e | e
    · exact (give_old (owns_lt h2 k e)).trans (h3 k e)
    · exact give_new e
  · refine h5.1.join (base := base) (fun t t' x x' b e e' _ _ => ?_) (fun x hx b hb => (h5.2.1 x hx b hb).2) (fun x hx b hb => ?_)
    · have := (List.getElem?_eq_some_iff.1 e).1
      have := (List.getElem?_eq_some_iff.1 e').1
      simp at *
      omega
    · rw [List.mem_singleton] at hx
      subst hx
      exact hn b hb
  · rcases List.mem_append.1 hx with hx | hx
    · exact (h5.2.1 x hx b hb).1
    · rw [List.mem_singleton] at hx
      subst hx
      exact Nat.le_trans h5.2.2 (hn b hb)
end
theorem frameInfo : (Tryz.prog.info? 34).map (fun i => (i.zero, i.size, i.bytes)) = some (some (.agg zeroF.toArray), 6, 40) := by kernel_rfl
end Go.Proofs.YtbbldkldgjmmgaaGreatDoor

/-
  package feed: Feed.
-/
namespace Go.Proofs.YtbbldkldgjmmgaaGreatDoor
open Go.RowKit

abbrev prs (most : Int) (ns : List Int) : Out := parse (ckH most) szN ns
section
variable {A : Nat → Addr} {w0 : World} {own : Nat → Nat} {i j : Nat} {w w' : World} {p : Nat} {most : Int} {hs g : List Int}
theorem wantsI_live (hl : Live (ckH most) szN hs) (hb : AreBytes hs) (hg : 12 ≤ hs.length → g = hs.take 12) : wantsI hs.length (dT g) (dL g) = (wantsP szN hs : Int) := by
  unfold wantsI wantsP
  rcases hl with h | ⟨h1, h2, h3⟩
  · rw [if_pos (by omega), if_pos h]; omega
  · rw [if_neg (by omega), if_neg (by omega), hg h1, szH_nat (hb.take 12)]; omega
/-- Feed's world at the beginning of a round: x and whole are the slices, hs is held, bs is left, fs are the frames so far -/
structure FeedAt (A : Nat → Addr) (w0 : World) (own : Nat → Nat) (i j : Nat) (w : World) (p : Nat) (most : Int) (T : Out) (N : Nat) (own' : Nat → Nat) (W : World) (hs bs : List Int) (fs : List (List Int × List Int)) (x whole : Value) : Prop where
  G : Gr A w0 own' W
  ext : ∀ k, k < w.heap.size → own' k = own k
  K : Keeps (fun k => own k = i) w W
  D : ∃ g, DecM own' i W p most hs g ∧ (12 ≤ hs.length → g = hs.take 12)
  live : Live (ckH most) szN hs
  F : FramesD own' j W whole fs w.heap.size
  R : RdS (fun k => own k = i ∨ w.heap.size ≤ k) W x bs
  fr : ∀ k, whole.ownBlock = some k → w.heap.size ≤ k
  B : w0.heap.size ≤ w.heap.size
  b : AreBytes bs
  T : T = ⟨fs ++ (prs most (hs ++ bs)).fs, (prs most (hs ++ bs)).rest, (prs most (hs ++ bs)).dead⟩
  len : 12 * fs.length + hs.length + bs.length ≤ N
/-- the same in the middle of a round -/
structure MidAt (A : Nat → Addr) (w0 : World) (own : Nat → Nat) (i j : Nat) (w : World) (p : Nat) (most : Int) (own' : Nat → Nat) (W : World) (hs g bs : List Int) (fs : List (List Int × List Int)) (x whole : Value) : Prop where
  G : Gr A w0 own' W
  ext : ∀ k, k < w.heap.size → own' k = own k
  K : Keeps (fun k => own k = i) w W
  D : DecM own' i W p most hs g
  F : FramesD own' j W whole fs w.heap.size
  R : RdS (fun k => own k = i ∨ w.heap.size ≤ k) W x bs
  fr : ∀ k, whole.ownBlock = some k → w.heap.size ≤ k
  B : w0.heap.size ≤ w.heap.size
theorem MidAt.step {W W' : World} {own' own'' : Nat → Nat} {hs hs' g g' bs bs' : List Int} {fs : List (List Int × List Int)} {x x' whole : Value} (h : MidAt A w0 own i j w p most own' W hs g bs fs x whole) (hi : i ≠ 0) (hij : j ≠ i)
    (he : ∀ k, k < W.heap.size → own'' k = own' k) (hk : Keeps (fun k => own' k = i) W W') (D : DecM own'' i W' p most hs' g') (R : RdS (fun k => own k = i ∨ w.heap.size ≤ k) W' x' bs') : MidAt A w0 own i j w p most own'' W' hs' g' bs' fs x' whole :=
  ⟨h.G.step hk hi he, fun k hk' => (he k (Nat.lt_of_lt_of_le hk' h.K.size)).trans (h.ext k hk'), h.K.next hk (fun k e hk' => (h.ext k hk').symm.trans e), D, h.F.others hk hij he, R, h.fr, h.B⟩
theorem MidAt.quiet {W W' : World} {own' : Nat → Nat} {hs g bs : List Int} {fs : List (List Int × List Int)} {x whole : Value} (h : MidAt A w0 own i j w p most own' W hs g bs fs x whole) (hk : Keeps Nowhere W W') : MidAt A w0 own i j w p most own' W' hs g bs fs x whole := by
  exact ⟨h.G.quiet hk, h.ext, h.K.next hk (fun _ e _ => e.elim), h.D.quiet hk, h.F.quiet hk, (h.R.later (Keeps.any hk)).mono (fun _ e _ => .inl e), h.fr, h.B⟩
theorem MidAt.mine {W : World} {own' : Nat → Nat} {hs g bs : List Int} {fs : List (List Int × List Int)} {x whole : Value} (h : MidAt A w0 own i j w p most own' W hs g bs fs x whole) : ∀ k, own' k = i → own k = i ∨ w.heap.size ≤ k := fun k e => by
  rcases Nat.lt_or_ge k w.heap.size with hl | hl
  · exact .inl ((h.ext k hl).symm.trans e)
  · exact .inr hl
theorem MidAt.rlater {W W' : World} {own' : Nat → Nat} {hs g bs : List Int} {fs : List (List Int × List Int)} {x whole : Value} (h : MidAt A w0 own i j w p most own' W hs g bs fs x whole) (hk : Keeps (fun k => own' k = i) W W') : RdS (fun k => own k = i ∨ w.heap.size ≤ k) W' x bs :=
  (h.R.later (hk.mono (fun k e _ => h.mine k e))).mono (fun _ e _ => .inl e)
theorem FeedAt.mid {W : World} {own' : Nat → Nat} {hs bs : List Int} {T : Out} {N : Nat} {fs : List (List Int × List Int)} {x whole : Value} (h : FeedAt A w0 own i j w p most T N own' W hs bs fs x whole) : ∃ g, MidAt A w0 own i j w p most own' W hs g bs fs x whole ∧ (12 ≤ hs.length → g = hs.take 12) := by
  obtain ⟨g, d, hg⟩ := h.D
  exact ⟨g, ⟨h.G, h.ext, h.K, d, h.F, h.R, h.fr, h.B⟩, hg⟩
/-- take, in Feed's world -/
theorem take_f {W : World} {own' : Nat → Nat} {hs g bs : List Int} {fs : List (List Int × List Int)} {x whole : Value} (hi : i ≠ 0) (hij : j ≠ i) (h : MidAt A w0 own i j w p most own' W hs g bs fs x whole) (hb : AreBytes bs) (n : Nat) (hmin : min (bs.length : Int) (wantsI hs.length (dT g) (dL g)) = n) (hhs : hs.length ≤ 4294967400) (hbs : bs.length ≤ 140737488351232) :
    Calls Tryz.prog 54 #[dPtr p, x] W fun e W' => ∃ q l c own'', e = .returned (.slice q l c) ∧ Aside (l = bs.length - n ∧ MidAt A w0 own i j w p most own'' W' (hs ++ bs.take n) g (bs.drop n) fs (.slice q l c) whole) := by
  refine (take_m h.D x bs h.R h.mine hb n hmin hhs hbs).mono ?_
  rintro e W' ⟨y, own'', rfl, ⟨he, hr, hd, hk⟩⟩
  obtain ⟨q, c, rfl, _⟩ := hr.shape
  exact ⟨q, _, c, own'', rfl, ⟨by simp, h.step hi hij he hk hd (hr.mono (fun _ e _ => .inl e))⟩⟩
theorem wants_f {W : World} {own' : Nat → Nat} {hs g bs : List Int} {fs : List (List Int × List Int)} {x whole : Value} (h : MidAt A w0 own i j w p most own' W hs g bs fs x whole) (hn : hs.length ≤ 4294967400) (z : Int) (hz : wantsI hs.length (dT g) (dL g) = z) :
    Calls Tryz.prog 30 #[dPtr p] W fun e W' => e = .returned (.int .i64 z) ∧ Aside (MidAt A w0 own i j w p most own' W' hs g bs fs x whole) := by
  refine (wants_m h.D hn).mono ?_
  rintro e W' ⟨rfl, hk⟩
  exact ⟨by rw [hz], ⟨h.quiet hk⟩⟩
theorem judge_f {W : World} {own' : Nat → Nat} {hs g bs : List Int} {fs : List (List Int × List Int)} {x whole : Value} (hi : i ≠ 0) (hij : j ≠ i) (h : MidAt A w0 own i j w p most own' W hs g bs fs x whole) (hlen : hs.length = 12) (hck : ckH most hs = true) :
    Calls Tryz.prog 55 #[dPtr p] W fun e W' => ∃ own'', e = .returned (.bool true) ∧ Aside (MidAt A w0 own i j w p most own'' W' hs hs bs fs x whole) := by
  refine (judge_m j h.G hi h.D hlen).mono ?_
  rintro e W' ⟨rfl, ⟨own'', he, hk, hor⟩⟩
  rw [hck] at hor ⊢
  rcases hor with ⟨_, d⟩ | ⟨e, _⟩
  · exact ⟨own'', rfl, ⟨h.step hi hij he hk d (h.rlater hk)⟩⟩
  · cases e
/-- behind a header that may not be -/
structure DiedAt (A : Nat → Addr) (w0 : World) (own : Nat → Nat) (i j : Nat) (w : World) (p : Nat) (most : Int) (own' : Nat → Nat) (W : World) (h : List Int) (fs : List (List Int × List Int)) (whole : Value) : Prop where
  G : Gr A w0 own' W
  ext : ∀ k, k < w.heap.size → own' k = own k
  K : Keeps (fun k => own k = i) w W
  D : DeadM A own' i j W p most h
  fr : ∀ k, whole.ownBlock = some k → w.heap.size ≤ k
  F : FramesD own' j W whole fs w.heap.size
theorem judge_bad {W : World} {own' : Nat → Nat} {hs g bs : List Int} {fs : List (List Int × List Int)} {x whole : Value} (hi : i ≠ 0) (hij : j ≠ i) (h : MidAt A w0 own i j w p most own' W hs g bs fs x whole) (hlen : hs.length = 12) (hck : ckH most hs = false) :
    Calls Tryz.prog 55 #[dPtr p] W fun e W' => ∃ own'', e = .returned (.bool false) ∧ Aside (DiedAt A w0 own i j w p most own'' W' hs fs whole) := by
  refine (judge_m j h.G hi h.D hlen).mono ?_
  rintro e W' ⟨rfl, ⟨own'', he, hk, hor⟩⟩
  rw [hck] at hor ⊢
  rcases hor with ⟨e, _⟩ | ⟨_, d⟩
  · cases e
  · exact ⟨own'', rfl, ⟨h.G.step hk hi he, fun k hk' => (he k (Nat.lt_of_lt_of_le hk' h.K.size)).trans (h.ext k hk'), h.K.next hk (fun k e hk' => (h.ext k hk').symm.trans e), d, h.fr, h.F.others hk hij he⟩⟩
theorem letGo_f {W : World} {own' : Nat → Nat} {hs g bs : List Int} {fs : List (List Int × List Int)} {x whole : Value} (hi : i ≠ 0) (hij : j ≠ i) (h : MidAt A w0 own i j w p most own' W hs g bs fs x whole) (h12 : 12 ≤ hs.length) (hlen : hs.length ≤ 4294967400) :
    Calls Tryz.prog 56 #[dPtr p] W fun e W' => ∃ q l c own'', e = .returned (frmH g (.slice q l c)) ∧ Aside (MidAt A w0 own i j w p most own'' W' [] g bs fs x whole ∧ DataO own'' j W' (.slice q l c) (hs.drop 12) ∧ FramesE own'' j W' whole fs w.heap.size W.heap.size ∧ ∀ b, (Value.slice q l c).ownBlock = some b → W.heap.size ≤ b) := by
  refine (letGo_m (j := j) h.D h12 hlen).mono ?_
  rintro e W' ⟨q, l, c, rfl, ⟨hk, d, hd, hf⟩⟩
  exact ⟨q, l, c, _, rfl, ⟨h.step hi hij (fun k hk => give_old hk) hk d (h.rlater hk), hd, FramesE.others h.F hk hij (fun k hk => give_old hk), hf⟩⟩
theorem MidAt.held {W : World} {own' : Nat → Nat} {hs g bs : List Int} {fs : List (List Int × List Int)} {x whole : Value} (h : MidAt A w0 own i j w p most own' W hs g bs fs x whole) {n : Nat} (hn : hs.length = n) : ∃ q c, W.cell? ⟨p, 1, none⟩ = some (.slice q n c) := by
  obtain ⟨hv, d, _⟩ := h.D.d
  obtain ⟨q, c, rfl⟩ := owns_val d.r
  exact ⟨q, c, by rw [← hn]; exact d.c.cell 1⟩
/-- one frame more behind those so far -/
theorem pushed {W W' : World} {ob : Obj} {own' : Nat → Nat} {h12 g d bs : List Int} {fs : List (List Int × List Int)} {x whole v' dv : Value} {xs : List FX} (hij : j ≠ i) (m : MidAt A w0 own i j w p most own' W [] g bs fs x whole) (hd : DataO own' j W dv d) (y1 : xs.map (·.1) = fs)
    (y2 : W.ownsRow 0 34 6 whole xs.length (fcells xs)) (y3 : ∀ k, whole.ownBlock = some k → own' k = j) (y4 : ∀ x ∈ xs, DataO own' j W x.2 x.1.2) {base : Nat} (y5 : Apart6 xs ∧ (∀ x ∈ xs, ∀ b, x.2.ownBlock = some b → w.heap.size ≤ b ∧ b < base) ∧ w.heap.size ≤ base) (hn : ∀ b, dv.ownBlock = some b → base ≤ b)
    (o : W'.ownsRow 0 34 6 v' (xs.length + 1) (fcells xs ++ frmL g dv)) (k2 : Keeps (fun b => whole.ownBlock = some b) (W.alloc ob) W') (b2 : ∀ b, v'.ownBlock = some b → whole.ownBlock = some b ∨ (W.alloc ob).heap.size ≤ b) (hg : g = h12) :
    MidAt A w0 own i j w p most (give own' W.heap.size j) W' [] g bs (fs ++ [(h12, d)]) x v' := by
  have kA : Keeps (fun b => whole.ownBlock = some b) W W' := ((Keeps.refl _ _).alloc ob).next k2 (fun k e _ => e)
  have hsz : W.heap.size ≤ (W.alloc ob).heap.size := by simp
  have b3 : ∀ b, v'.ownBlock = some b → whole.ownBlock = some b ∨ W.heap.size ≤ b := fun b hb => (b2 b hb).imp id (fun e => Nat.le_trans hsz e)
  have he : ∀ k, k < W.heap.size → give own' W.heap.size j k = own' k := fun k hk => give_old hk
  have F := FramesE.push y2 y3 y4 y5 hd hn m.K.size o kA b3
  subst y1 hg
  refine ⟨⟨m.G.b, fun k hk => ?_, ?_, Nat.le_trans m.G.g.size kA.size⟩, fun k hk => (he k (Nat.lt_of_lt_of_le hk m.K.size)).trans (m.ext k hk), m.K.next kA (fun k e hk => absurd (m.fr k e) (by omega)), ?_, F, ?_, fun k hk => ?_, m.B⟩
  · rw [he k (by have := m.G.g.size; omega)]; exact m.G.g.zero k hk
  · refine below_next m.G.g.bel kA m.G.g.size (fun k e _ => ?_)
    exact Nat.le_trans m.B (m.fr k e)
  · obtain ⟨hp, ⟨hv, dd, ho⟩, hb, hgb⟩ := m.D
    have hpl := dd.c.lt
    refine ⟨(he p hpl).trans hp, ⟨hv, ⟨dd.c.later kA (fun e => hij ((y3 p e).symm.trans hp)), owns_later dd.r kA (fun b hb e => hij ((y3 b e).symm.trans (ho b hb)))⟩, fun k hk => (he k (owns_lt dd.r k hk)).trans (ho k hk)⟩, hb, hgb⟩
  · exact ((m.R.mono (S' := fun k => own k = i ∨ w.heap.size ≤ k) (fun k e _ => e)).later (kA.mono (fun k e _ => .inr (m.fr k e)))).mono (fun _ e _ => .inl e)
  · rcases b3 k hk with e | e
    · exact m.fr k e
    · exact Nat.le_trans m.K.size e
end
end Go.Proofs.YtbbldkldgjmmgaaGreatDoor

/-
  package feed: Feed, walked.
-/
namespace Go.Proofs.YtbbldkldgjmmgaaGreatDoor
open Go.RowKit

def slen : Value → Nat
  | .slice _ l _ => l
  | _ => 0
/-- a dead decoder, whose violation lies in vb -/
structure DeadV (A : Nat → Addr) (own : Nat → Nat) (i j : Nat) (w : World) (p : Nat) (most : Int) (h : List Int) (vb : Nat) : Prop where
  hp : own p = i
  c : ∃ g, Cells w p 96 (decL most (.slice none 0 0) (dV g) (dT g) (dF g) (dS g) (dL g) (dPtr vb))
  v : VioAt A own j w most h vb
/-- a decoder that lives -/
structure DecL (own : Nat → Nat) (i : Nat) (w : World) (p : Nat) (most : Int) (hs : List Int) : Prop where
  d : ∃ g, DecM own i w p most hs g ∧ (12 ≤ hs.length → g = hs.take 12)
  l : Live (ckH most) szN hs
/-- a decoder -/
def DecS (A : Nat → Addr) (own : Nat → Nat) (i j : Nat) (w : World) (p : Nat) (most : Int) (hs : List Int) (dead : Option (List Int)) : Prop :=
  match dead with
  | none => DecL own i w p most hs
  | some h => ∃ vb, DeadV A own i j w p most h vb
/-- the error that tells of its death -/
def ErrS (A : Nat → Addr) (own : Nat → Nat) (j : Nat) (w : World) (most : Int) (ev : Value) (dead : Option (List Int)) : Prop :=
  match dead with
  | none => ev = .nilIface
  | some h => ∃ vb, ev = vio vb ∧ VioAt A own j w most h vb
/-- what Feed has done -/
structure Fed (A : Nat → Addr) (w0 : World) (own : Nat → Nat) (i j : Nat) (w : World) (p : Nat) (most : Int) (o : Out) (own' : Nat → Nat) (W : World) (fv ev : Value) : Prop where
  G : Gr A w0 own' W
  ext : ∀ k, k < w.heap.size → own' k = own k
  K : Keeps (fun k => own k = i) w W
  F : FramesO own' j W fv o.fs
  N : FramesD own' j W fv o.fs w.heap.size ∧ ∀ k, fv.ownBlock = some k → w.heap.size ≤ k
  D : DecS A own' i j W p most o.rest o.dead
  E : ErrS A own' j W most ev o.dead

section
variable {A : Nat → Addr} {w0 : World} {own : Nat → Nat} {i j : Nat} {w w' : World} {p : Nat} {most : Int} {hs : List Int}
theorem VioAt.quiet {h : List Int} {vb : Nat} (hv : VioAt A own j w most h vb) (hk : Keeps Nowhere w w') : VioAt A own j w' most h vb := by
  obtain ⟨a, k, b, c, d, e⟩ := hv
  exact ⟨a, k, b, c, d, e.later hk (fun x => x)⟩
theorem FramesO.quiet {fv : Value} {fs : List (List Int × List Int)} (h : FramesO own j w fv fs) (hk : Keeps Nowhere w w') : FramesO own j w' fv fs := by
  obtain ⟨xs, f1, f2, f3, f4⟩ := h
  exact ⟨xs, f1, owns_later f2 hk (fun _ _ e => e), f3, fun x hx => ⟨owns_later (f4 x hx).1 hk (fun _ _ e => e), (f4 x hx).2⟩⟩
theorem DecL.quiet (h : DecL own i w p most hs) (hk : Keeps Nowhere w w') : DecL own i w' p most hs := by
  obtain ⟨⟨g, d, hg⟩, l⟩ := h
  exact ⟨⟨g, d.quiet hk, hg⟩, l⟩
theorem drewN_keeps (w : World) (n : Nat) : Keeps Nowhere w (w.drewN n) := (Keeps.refl _ _).drewN n
/-- the end, alive -/
theorem FeedAt.fin {W : World} {own' : Nat → Nat} {T : Out} {N : Nat} {fs : List (List Int × List Int)} {x whole : Value} (h : FeedAt A w0 own i j w p most T N own' W hs [] fs x whole) (n : Nat) : Fed A w0 own i j w p most T own' (W.drewN n) whole .nilIface := by
  have hT := h.T
  rw [List.append_nil, prs, h.live.parse] at hT
  subst hT
  obtain ⟨g, d, hg⟩ := h.D
  exact ⟨h.G.quiet (drewN_keeps _ _), h.ext, h.K.drewN n, by simpa using (h.F.quiet (drewN_keeps W n)).o, ⟨by simpa using h.F.quiet (drewN_keeps W n), h.fr⟩, ⟨⟨g, d.quiet (drewN_keeps _ _), hg⟩, h.live⟩, rfl⟩
/-- the end, dead -/
theorem DiedAt.fin {W : World} {own' : Nat → Nat} {h : List Int} {fs : List (List Int × List Int)} {whole : Value} {vb : Nat} (hd : DiedAt A w0 own i j w p most own' W h fs whole) (n : Nat) (hp : own' p = i) (c : ∃ g, Cells W p 96 (decL most (.slice none 0 0) (dV g) (dT g) (dF g) (dS g) (dL g) (dPtr vb))) (v : VioAt A own' j W most h vb) (o : Out)
    (h1 : o.fs = fs) (h3 : o.dead = some h) : Fed A w0 own i j w p most o own' (W.drewN n) whole (vio vb) := by
  obtain ⟨ofs, orest, odead⟩ := o
  simp only at h1 h3
  subst h1 h3
  exact ⟨hd.G.quiet (drewN_keeps _ _), hd.ext, hd.K.drewN n, (hd.F.quiet (drewN_keeps _ _)).o, ⟨hd.F.quiet (drewN_keeps _ _), hd.fr⟩, ⟨vb, hp, c, v.quiet (drewN_keeps _ _)⟩, ⟨vb, rfl, v.quiet (drewN_keeps _ _)⟩⟩
/-- one round that goes on -/
theorem FeedAt.on {W W' : World} {own' own'' : Nat → Nat} {T : Out} {N n : Nat} {g hs bs : List Int} {fs : List (List Int × List Int)} {x x' whole : Value} (h : FeedAt A w0 own i j w p most T N own' W hs bs fs x whole) (hn : n ≤ bs.length)
    (m : MidAt A w0 own i j w p most own'' W' (hs ++ bs.take n) g (bs.drop n) fs x' whole) (hl : Live (ckH most) szN (hs ++ bs.take n)) (hg : 12 ≤ (hs ++ bs.take n).length → g = (hs ++ bs.take n).take 12) : FeedAt A w0 own i j w p most T N own'' W' (hs ++ bs.take n) (bs.drop n) fs x' whole := by
  refine ⟨m.G, m.ext, m.K, ⟨g, m.D, hg⟩, hl, m.F, m.R, m.fr, m.B, h.b.drop n, ?_, ?_⟩
  · rw [round_same]; exact h.T
  · have := h.len
    rw [round_len hs bs hn]
    simp
    omega
/-- one round that gives a frame -/
theorem FeedAt.give {W W' : World} {own' own'' : Nat → Nat} {T : Out} {N n : Nat} {g hs bs : List Int} {fs : List (List Int × List Int)} {x x' whole whole' : Value} (h : FeedAt A w0 own i j w p most T N own' W hs bs fs x whole) (hn : n ≤ bs.length)
    (m : MidAt A w0 own i j w p most own'' W' [] g (bs.drop n) (fs ++ [((hs ++ bs.take n).take 12, (hs ++ bs.take n).drop 12)]) x' whole') (h12 : 12 ≤ (hs ++ bs.take n).length) (hc : ckH most ((hs ++ bs.take n).take 12) = true) (hlen : (hs ++ bs.take n).length = 12 + szN ((hs ++ bs.take n).take 12)) :
    FeedAt A w0 own i j w p most T N own'' W' [] (bs.drop n) (fs ++ [((hs ++ bs.take n).take 12, (hs ++ bs.take n).drop 12)]) x' whole' := by
  refine ⟨m.G, m.ext, m.K, ⟨g, m.D, fun h => by simp at h⟩, Live.nil, m.F, m.R, m.fr, m.B, h.b.drop n, ?_, ?_⟩
  · have := h.T
    rw [prs, round_frame (n := n) (hs ++ bs.take n) (round_same hs bs n) h12 hc hlen] at this
    rw [this]
    simp
  · have := h.len
    have e := round_len hs bs hn
    simp only [List.length_append, List.length_singleton, List.length_nil, List.length_drop] at *
    omega
end
end Go.Proofs.YtbbldkldgjmmgaaGreatDoor

/-
  package feed: Feed, walked.
-/
namespace Go.Proofs.YtbbldkldgjmmgaaGreatDoor
open Go.RowKit

theorem frm_one (h : List Int) (d : Value) (hd : d.oneCell' = true := by rfl) : ∀ u ∈ frmL h d, u.oneCell' = true := by
  intro u hu
  simp only [List.mem_cons, List.not_mem_nil, or_false] at hu
  rcases hu with rfl | rfl | rfl | rfl | rfl | rfl
  all_goals first | rfl | exact hd
section
variable {A : Nat → Addr} {w0 : World} {own : Nat → Nat} {i j : Nat} {w w' : World} {p : Nat} {most : Int} {hs : List Int}
set_option maxHeartbeats 4000000 in
set_option maxRecDepth 20000 in
theorem feed_live (hi : i ≠ 0) (hij : j ≠ i) (G : Gr A w0 own w) (D : DecL own i w p most hs) (q0 : Option Addr) (l0 c0 : Nat) (b0 : List Int) (R : RdS (fun k => own k = i) w (.slice q0 l0 c0) b0) (hb : AreBytes b0) (hN : hs.length + b0.length ≤ 1099511627776) :
    Calls Tryz.prog 31 #[dPtr p, .slice q0 l0 c0] w fun e w' => ∃ fv ev own', e = .returned (.tuple #[fv, ev]) ∧ Aside (Fed A w0 own i j w p most (prs most (hs ++ b0)) own' w' fv ev) := by
  have h0 : Aside (l0 = b0.length ∧ FeedAt A w0 own i j w p most (prs most (hs ++ b0)) (hs.length + b0.length) own w hs b0 [] (.slice q0 l0 c0) (.slice none 0 0)) := by
    obtain ⟨a, c, e, _⟩ := R.shape
    injection e with _ e _
    exact ⟨e, ⟨G, fun _ _ => rfl, Keeps.refl _ _, D.d, D.l, FramesD.none _ _ _ (Nat.le_refl _), R.mono (fun k e hk => e.elim id (fun e => absurd e (by omega))), fun k hk => by simp [Value.ownBlock] at hk, G.g.size, hb, by simp, by simp⟩⟩
  have hi := Aside.mk hi
  have hij := Aside.mk hij
  have hN := Aside.mk hN
  have c7 : w.cell? ⟨p, 7, none⟩ = some (.pointer none) := by
    obtain ⟨g, ⟨_, ⟨hv, d, _⟩, _, _⟩, _⟩ := D.d
    exact d.c.cell 7
  clear G D R hb
  generalize prs most (hs ++ b0) = T at *
  go_enter Tryz.func31, Tryz.ntmps31
  go_wp2
  go_step3
  go_wp2_with fail
  go_step3
  go_wp2_with fail
  go_loopw [1, 6] (fun b wh wr => ∃ (q : Option Addr) (l c : Nat) (own' : Nat → Nat) (hs' bs' : List Int) (fs' : List (List Int × List Int)), b = .slice q l c ∧ (∃ a n m, wh = .slice a n m) ∧ Aside (l = bs'.length ∧ FeedAt A w0 own i j w p most T (hs.length + b0.length) own' wr hs' bs' fs' (.slice q l c) wh)) (fun b _ _ => slen b)
  case atStart => exact ⟨_, _, _, _, _, _, _, rfl, ⟨_, _, _, rfl⟩, h0⟩
  case round =>
    clear h0 c7
    obtain ⟨q, l, c, own1, hs1, bs1, fs1, rfl, ⟨a1, n1, m1, rfl⟩, F1⟩ := hrel
    by_cases hl : l = 0
    · subst hl
      have hbs : bs1 = [] := List.eq_nil_of_length_eq_zero F1.it.1.symm
      subst hbs
      obtain ⟨g1, d1, hg1⟩ := F1.it.2.D
      obtain ⟨hv1, e1, ho1⟩ := d1.d
      have EL := Aside.mk (err_live e1.c)
      clear e1 ho1 d1 hg1
      go_wp2_with (go_at_call 24; refine EL.it.mono ?_; rintro e w5 ⟨rfl, n5, rfl⟩)
      try rw [Exit.noGoto_ret]
      go_ret2
      exact ⟨_, _, _, rfl, ⟨F1.it.2.fin n5⟩⟩
    · have hl0 : 0 < l := by omega
      have hl0' : (0 : Int) < (l : Int) := by omega
      obtain ⟨g1, M1, hg1⟩ := F1.it.2.mid
      have hlv := F1.it.2.live
      have hbH := M1.D.b
      have hwI := wantsI_live hlv hbH hg1
      have hw0 := hlv.wants
      have hlen := Aside.mk F1.it.1
      have hNb := F1.it.2.len
      have hhl : hs1.length ≤ 4294967400 := by
        rcases hlv with h | ⟨_, _, h⟩
        · omega
        · have := dL_bounds (hbH.take 12)
          have := szH_nat (hbH.take 12)
          unfold szH at this
          split at this <;> omega
      obtain ⟨n, hn⟩ : ∃ n, n = min bs1.length (wantsP szN hs1) := ⟨_, rfl⟩
      have hn0 : 0 < n := by have := F1.it.1; omega
      have hnb : n ≤ bs1.length := by omega
      have hnw : n ≤ wantsP szN hs1 := by omega
      have hmin : min (bs1.length : Int) (wantsI hs1.length (dT g1) (dL g1)) = n := by rw [hwI]; omega
      have TK := Aside.mk (take_f hi.it hij.it M1 F1.it.2.b n hmin hhl (by have := hN.it; omega))
      have hn0' := Aside.mk hn0
      have hnb' := Aside.mk hnb
      clear hn0
      have hT := Aside.mk F1.it.2.T
      have hlt := round_len hs1 bs1 hnb
      have hmore := round_more hlv hnb hnw
      have hhl2 : Aside ((hs1 ++ bs1.take n).length ≤ 4294967400) := ⟨by rw [hlt]; unfold wantsP at hnw; have e := szH_nat (hbH.take 12); have := dL_bounds (hbH.take 12); unfold szH at e; split at hnw <;> split at e <;> omega⟩
      have AB : Aside (∀ xs : List FX, Aside (xs.map (·.1) = fs1) → (xs.length + 1) * 40 ≤ 140737488355328) := ⟨fun xs e => by have := congrArg List.length e.it; rw [List.length_map] at this; have := hN.it; omega⟩
      have AM : Aside (∀ xs : List FX, Aside (xs.map (·.1) = fs1) → xs.length + 1 ≤ maxLen) := ⟨fun xs e => by have := AB.it xs e; unfold maxLen; omega⟩
      clear hmin hn hwI M1 hw0 hNb hhl hnw hl hnb
      generalize hxx : hs1 ++ bs1.take n = hs2 at *
      by_cases h12 : hs2.length = 12
      · have LL := Aside.mk h12
        cases hck0 : ckH most hs2 with
        | false =>
          have hck := Aside.mk hck0
          have TT : Aside (T.fs = fs1 ∧ T.dead = some hs2) := by
            have := hT.it
            rw [prs, round_dead (n := n) (hxx ▸ h12) (hxx ▸ hck0), hxx] at this
            exact ⟨by rw [this]; simp⟩
          clear hck0 h12 hlt hmore hbH hlv AB AM hxx
          go_wp2_with (first | (go_at_call 54; refine TK.it.mono ?_; rintro e w2 ⟨q2, l2, c2, own2, rfl, X2⟩; obtain ⟨qh, ch, hh⟩ := X2.it.2.held LL.it) | (go_at_call 55; refine (judge_bad hi.it hij.it X2.it.2 LL.it hck.it).mono ?_; rintro e w3 ⟨own3, rfl, X3⟩; obtain ⟨vb, g3, C3, V3⟩ := X3.it.D.d; have EL := Aside.mk (err_dead C3); have C3 := Aside.mk C3; have V3 := Aside.mk V3) | (go_at_call 24; refine EL.it.mono ?_; rintro e w5 ⟨rfl, n5, rfl⟩))
          try rw [Exit.noGoto_ret]
          go_ret2
          exact ⟨_, _, _, rfl, ⟨X3.it.fin n5 X3.it.D.hp ⟨g3, C3.it⟩ V3.it T TT.it.1 TT.it.2⟩⟩
        | true =>
          have hck := Aside.mk hck0
          have hb2 : AreBytes hs2 := hxx ▸ hbH.append (F1.it.2.b.take n)
          have ht2 : hs2.take 12 = hs2 := List.take_of_length_le (by omega)
          have hw2 : wantsI hs2.length (dT hs2) (dL hs2) = (szN hs2 : Int) := by
            unfold wantsI
            rw [if_neg (by omega), szH_nat hb2]
            omega
          have hxx := Aside.mk hxx
          by_cases hz0 : szN hs2 = 0
          · have hz : Aside (wantsI hs2.length (dT hs2) (dL hs2) = 0) := ⟨by rw [hw2]; omega⟩
            have h12' : Aside (12 ≤ hs2.length) := ⟨by omega⟩
            have GE : Aside (hs2 = hs2.take 12) := ⟨ht2.symm⟩
            have CK : Aside (ckH most (hs2.take 12) = true) := ⟨by rw [ht2]; exact hck0⟩
            have LN : Aside (hs2.length = 12 + szN (hs2.take 12)) := ⟨by rw [ht2]; omega⟩
            clear hck0 h12 hlt hmore hbH hlv hw2 hz0 hb2 ht2
            go_wp2_with (first | (go_at_call 54; refine TK.it.mono ?_; rintro e w2 ⟨q2, l2, c2, own2, rfl, X2⟩; obtain ⟨qh, ch, hh⟩ := X2.it.2.held LL.it) | (go_at_call 55; refine (judge_f hi.it hij.it X2.it.2 LL.it hck.it).mono ?_; rintro e w3 ⟨own3, rfl, X3⟩) | (go_at_call 30; refine (wants_f X3.it hhl2.it _ hz.it).mono ?_; rintro e w4 ⟨rfl, X4⟩) | (go_at_call 56; refine (letGo_f hi.it hij.it X4.it h12'.it hhl2.it).mono ?_; rintro e w5 ⟨q5, l5, c5, own5, rfl, X5⟩; obtain ⟨xs5, y1, y2, y3, y4, y5⟩ := X5.it.2.2.1; have y1 := Aside.mk y1; have y2 := Aside.mk y2; have y3 := Aside.mk y3; have y4 := Aside.mk y4; have y5 := Aside.mk y5) | (at_builtin; refine wpList_appendR rfl (.tmp 41) (.tmp 44) 22 rfl 34 _ 6 40 Tryz.underlying22 frameInfo rfl (by decide) w5 ((Keeps.refl _ _).alloc _) 0 _ _ _ y2.it _ 1 (frmL hs2 (.slice q5 l5 c5)) (readsK_new w5 34 (frmL hs2 (.slice q5 l5 c5))) (frm_one _ _) (AB.it _ y1) (AM.it _ y1) (Nat.zero_le _) rfl rfl ?_; intro v6 w6 o6 k6 b6; obtain ⟨q6, c6, rfl⟩ := owns_val o6.it))
            go_round
            case rel => exact ⟨q2, l2, c2, _, _, _, _, rfl, ⟨_, _, _, rfl⟩, ⟨by rw [X2.it.1]; simp, F1.it.2.give hnb'.it (hxx.it ▸ pushed hij.it X5.it.1 X5.it.2.1 y1.it y2.it y3.it y4.it y5.it X5.it.2.2.2 o6.it k6.it b6.it GE.it) (hxx.it ▸ h12'.it) (hxx.it ▸ CK.it) (hxx.it ▸ LN.it)⟩⟩
            case measure => have := X2.it.1; have := hlen.it; have := hn0'.it; show l2 < l; omega
          · obtain ⟨z, hz, hz1⟩ : ∃ z : Int, Aside (wantsI hs2.length (dT hs2) (dL hs2) = z) ∧ 0 < z := ⟨_, ⟨rfl⟩, by rw [hw2]; omega⟩
            have LV : Aside (Live (ckH most) szN hs2) := ⟨.inr ⟨by omega, by rw [ht2]; exact hck0, by rw [ht2]; omega⟩⟩
            have HG : Aside (12 ≤ hs2.length → hs2 = hs2.take 12) := ⟨fun _ => ht2.symm⟩
            clear hck0 h12 hlt hmore hbH hlv hw2 hz0 hb2 ht2 AB AM
            go_wp2_with (first | (go_at_call 54; refine TK.it.mono ?_; rintro e w2 ⟨q2, l2, c2, own2, rfl, X2⟩; obtain ⟨qh, ch, hh⟩ := X2.it.2.held LL.it) | (go_at_call 55; refine (judge_f hi.it hij.it X2.it.2 LL.it hck.it).mono ?_; rintro e w3 ⟨own3, rfl, X3⟩) | (go_at_call 30; refine (wants_f X3.it hhl2.it _ hz.it).mono ?_; rintro e w4 ⟨rfl, X4⟩))
            go_round
            case rel => exact ⟨q2, l2, c2, _, _, _, _, rfl, ⟨_, _, _, rfl⟩, ⟨by rw [X2.it.1]; simp, hxx.it ▸ F1.it.2.on hnb'.it (hxx.it ▸ X4.it) (hxx.it ▸ LV.it) (hxx.it ▸ HG.it)⟩⟩
            case measure => have := X2.it.1; have := hlen.it; have := hn0'.it; show l2 < l; omega
      · obtain ⟨m2, LL⟩ : ∃ m2, Aside (hs2.length = m2) := ⟨_, ⟨rfl⟩⟩
        have hne : ((m2 : Int) == 12) = false := by rw [beq_eq_false_iff_ne]; have := LL.it; omega
        by_cases hlt12 : hs2.length < 12
        · obtain ⟨z, hz, hz1⟩ : ∃ z : Int, Aside (wantsI hs2.length (dT g1) (dL g1) = z) ∧ 0 < z := ⟨_, ⟨rfl⟩, by unfold wantsI; rw [if_pos (by omega)]; omega⟩
          have LV : Aside (Live (ckH most) szN hs2) := ⟨.inl hlt12⟩
          have HG : Aside (12 ≤ hs2.length → g1 = hs2.take 12) := ⟨fun h => by omega⟩
          have hxx := Aside.mk hxx
          clear h12 hlt hmore hbH hlv hlt12 AB AM
          go_wp2_with (first | (go_at_call 54; refine TK.it.mono ?_; rintro e w2 ⟨q2, l2, c2, own2, rfl, X2⟩; obtain ⟨qh, ch, hh⟩ := X2.it.2.held LL.it)  | (go_at_call 30; refine (wants_f X2.it.2 hhl2.it _ hz.it).mono ?_; rintro e w4 ⟨rfl, X4⟩))
          go_round
          case rel => exact ⟨q2, l2, c2, _, _, _, _, rfl, ⟨_, _, _, rfl⟩, ⟨by rw [X2.it.1]; simp, hxx.it ▸ F1.it.2.on hnb'.it (hxx.it ▸ X4.it) (hxx.it ▸ LV.it) (hxx.it ▸ HG.it)⟩⟩
          case measure => have := X2.it.1; have := hlen.it; have := hn0'.it; show l2 < l; omega
        · obtain ⟨r1, r2, r3, r4⟩ := hmore (by omega)
          have hgt : g1 = hs2.take 12 := by rw [r2]; exact hg1 r1
          have hw2 : wantsI hs2.length (dT g1) (dL g1) = 12 + (szN g1 : Int) - hs2.length := by
            unfold wantsI
            rw [if_neg (by omega), szH_nat (by rw [hg1 r1]; exact hbH.take 12)]
          rw [← r2, ← hgt] at r3 r4
          have hxx := Aside.mk hxx
          by_cases hz0 : hs2.length = 12 + szN g1
          · have hz : Aside (wantsI hs2.length (dT g1) (dL g1) = 0) := ⟨by rw [hw2]; omega⟩
            have h12' : Aside (12 ≤ hs2.length) := ⟨by omega⟩
            have CK : Aside (ckH most (hs2.take 12) = true) := ⟨by rw [← hgt]; exact r3⟩
            have LN : Aside (hs2.length = 12 + szN (hs2.take 12)) := ⟨by rw [← hgt]; exact hz0⟩
            have GE : Aside (g1 = hs2.take 12) := ⟨hgt⟩
            clear h12 hlt hmore hbH hlv hlt12 r1 r2 r3 r4 hgt hw2 hz0 hg1
            go_wp2_with (first | (go_at_call 54; refine TK.it.mono ?_; rintro e w2 ⟨q2, l2, c2, own2, rfl, X2⟩; obtain ⟨qh, ch, hh⟩ := X2.it.2.held LL.it)  | (go_at_call 30; refine (wants_f X2.it.2 hhl2.it _ hz.it).mono ?_; rintro e w4 ⟨rfl, X4⟩) | (go_at_call 56; refine (letGo_f hi.it hij.it X4.it h12'.it hhl2.it).mono ?_; rintro e w5 ⟨q5, l5, c5, own5, rfl, X5⟩; obtain ⟨xs5, y1, y2, y3, y4, y5⟩ := X5.it.2.2.1; have y1 := Aside.mk y1; have y2 := Aside.mk y2; have y3 := Aside.mk y3; have y4 := Aside.mk y4; have y5 := Aside.mk y5) | (at_builtin; refine wpList_appendR rfl (.tmp 41) (.tmp 44) 22 rfl 34 _ 6 40 Tryz.underlying22 frameInfo rfl (by decide) w5 ((Keeps.refl _ _).alloc _) 0 _ _ _ y2.it _ 1 (frmL g1 (.slice q5 l5 c5)) (readsK_new w5 34 (frmL g1 (.slice q5 l5 c5))) (frm_one _ _) (AB.it _ y1) (AM.it _ y1) (Nat.zero_le _) rfl rfl ?_; intro v6 w6 o6 k6 b6; obtain ⟨q6, c6, rfl⟩ := owns_val o6.it))
            go_round
            case rel => exact ⟨q2, l2, c2, _, _, _, _, rfl, ⟨_, _, _, rfl⟩, ⟨by rw [X2.it.1]; simp, F1.it.2.give hnb'.it (hxx.it ▸ pushed hij.it X5.it.1 X5.it.2.1 y1.it y2.it y3.it y4.it y5.it X5.it.2.2.2 o6.it k6.it b6.it GE.it) (hxx.it ▸ h12'.it) (hxx.it ▸ CK.it) (hxx.it ▸ LN.it)⟩⟩
            case measure => have := X2.it.1; have := hlen.it; have := hn0'.it; show l2 < l; omega
          · obtain ⟨z, hz, hz1⟩ : ∃ z : Int, Aside (wantsI hs2.length (dT g1) (dL g1) = z) ∧ 0 < z := ⟨_, ⟨rfl⟩, by rw [hw2]; omega⟩
            have LV : Aside (Live (ckH most) szN hs2) := ⟨.inr ⟨by omega, by rw [← hgt]; exact r3, by rw [← hgt]; omega⟩⟩
            have HG : Aside (12 ≤ hs2.length → g1 = hs2.take 12) := ⟨fun _ => hgt⟩
            clear h12 hlt hmore hbH hlv hlt12 r1 r2 r3 r4 hgt hw2 hz0 hg1 AB AM
            go_wp2_with (first | (go_at_call 54; refine TK.it.mono ?_; rintro e w2 ⟨q2, l2, c2, own2, rfl, X2⟩; obtain ⟨qh, ch, hh⟩ := X2.it.2.held LL.it)  | (go_at_call 30; refine (wants_f X2.it.2 hhl2.it _ hz.it).mono ?_; rintro e w4 ⟨rfl, X4⟩))
            go_round
            case rel => exact ⟨q2, l2, c2, _, _, _, _, rfl, ⟨_, _, _, rfl⟩, ⟨by rw [X2.it.1]; simp, hxx.it ▸ F1.it.2.on hnb'.it (hxx.it ▸ X4.it) (hxx.it ▸ LV.it) (hxx.it ▸ HG.it)⟩⟩
            case measure => have := X2.it.1; have := hlen.it; have := hn0'.it; show l2 < l; omega
end
end Go.Proofs.YtbbldkldgjmmgaaGreatDoor

/-
  package feed: every call, of a decoder that lives, of a dead one, of none; Code and Stream of what it fails with.
-/
namespace Go.Proofs.YtbbldkldgjmmgaaGreatDoor
open Go.RowKit

/-- what Feed makes of b -/
def feedO (most : Int) (hs : List Int) (dead : Option (List Int)) (b : List Int) : Out :=
  match dead with
  | none => prs most (hs ++ b)
  | some h => ⟨[], [], some h⟩
def heldS (hs : List Int) (dead : Option (List Int)) : Nat := match dead with | none => hs.length | some _ => 0
def wantsS (hs : List Int) (dead : Option (List Int)) : Nat := match dead with | none => wantsP szN hs | some _ => 0
def codeS (most : Int) (dead : Option (List Int)) : Int := match dead with | none => 0 | some h => 1000 + chkH most h
def strmS (dead : Option (List Int)) : Int := match dead with | none => 0 | some h => dS h

section
variable {A : Nat → Addr} {w0 : World} {own : Nat → Nat} {i j : Nat} {w w' : World} {p : Nat} {most : Int} {hs : List Int} {dead : Option (List Int)}
theorem new_s (G : Gr A w0 own w) (h1 : 1 ≤ most) (h2 : most ≤ 65536) :
    Calls Tryz.prog 29 #[.int .i64 most] w fun e w' => ∃ p own', e = .returned (.tuple #[dPtr p, .nilIface]) ∧ Aside (Gr A w0 own' w' ∧ DecS A own' i j w' p most [] none ∧ (∀ k, k < w.heap.size → own' k = own k) ∧ Keeps Nowhere w w') := by
  refine (new_ok most w h1 h2).mono ?_
  rintro e w' ⟨rfl, rfl⟩
  have K : Keeps Nowhere w (w.alloc (.cells (decL most (.slice none 0 0) 0 0 0 0 0 (.pointer none)).toArray 96)) := (Keeps.refl _ _).alloc _
  refine ⟨w.heap.size, give own w.heap.size i, rfl, ⟨(G.ext (fun k hk => give_old hk)).quiet K, ⟨⟨[], ⟨give_new (Nat.le_refl _), ⟨.slice none 0 0, ⟨?_, World.ownsRow_nil _ _ _ _⟩, fun k hk => by simp [Value.ownBlock] at hk⟩, fun n hn => by simp at hn, fun n hn => by simp at hn⟩, fun h => by simp at h⟩, Live.nil⟩, fun k hk => give_old hk, K⟩⟩
  exact Cells.new w 96 _
theorem feed_nil (B : Base A w) (x : Value) :
    Calls Tryz.prog 31 #[.pointer none, x] w fun e w' => e = .returned (.tuple #[.slice none 0 0, .iface 204 (.pointer (some (A 0)))]) ∧ Keeps Nowhere w w' := by
  have hc := B.s.cell 0 9 rfl
  clear B
  go_enter Tryz.func31, Tryz.ntmps31
  go_wp2
  go_step3
  go_wp2_with fail
  go_quiet (fail)
  go_wp2
  try rw [Exit.noGoto_ret]
  go_ret2
  exact ⟨rfl, drewN_keeps _ _⟩
theorem feed_dead {vb : Nat} {h : List Int} (D : DeadV A own i j w p most h vb) (x : Value) :
    Calls Tryz.prog 31 #[dPtr p, x] w fun e w' => e = .returned (.tuple #[.slice none 0 0, vio vb]) ∧ Keeps Nowhere w w' := by
  obtain ⟨g, c⟩ := D.c
  have c7 := c.cell 7
  simp at c7
  have E := Aside.mk (err_dead c)
  clear c D
  go_enter Tryz.func31, Tryz.ntmps31
  go_wp2
  go_step3
  go_wp2_with (go_at_call 24; refine E.it.mono ?_; rintro e w5 ⟨rfl, n5, rfl⟩)
  try rw [Exit.noGoto_ret]
  go_ret2
  exact ⟨rfl, drewN_keeps _ _⟩
theorem DeadV.quiet {vb : Nat} {h : List Int} (D : DeadV A own i j w p most h vb) (hk : Keeps Nowhere w w') : DeadV A own i j w' p most h vb := by
  obtain ⟨a, ⟨g, c⟩, v⟩ := D
  exact ⟨a, ⟨g, c.later hk (fun x => x)⟩, v.quiet hk⟩
theorem DecS.quiet (D : DecS A own i j w p most hs dead) (hk : Keeps Nowhere w w') : DecS A own i j w' p most hs dead := by
  cases dead with
  | none => exact DecL.quiet D hk
  | some h => obtain ⟨vb, d⟩ := D; exact ⟨vb, d.quiet hk⟩
theorem feed_s (hi : i ≠ 0) (hij : j ≠ i) (G : Gr A w0 own w) (D : DecS A own i j w p most hs dead) (x : Value) (b : List Int) (R : RdS (fun k => own k = i) w x b) (hb : AreBytes b) (hN : hs.length + b.length ≤ 1099511627776) :
    Calls Tryz.prog 31 #[dPtr p, x] w fun e w' => ∃ fv ev own', e = .returned (.tuple #[fv, ev]) ∧ Aside (Fed A w0 own i j w p most (feedO most hs dead b) own' w' fv ev) := by
  cases dead with
  | none =>
    obtain ⟨q, c, rfl, _⟩ := R.shape
    exact feed_live hi hij G D _ _ _ b R hb hN
  | some h =>
    obtain ⟨vb, d⟩ := D
    refine (feed_dead d x).mono ?_
    rintro e w' ⟨rfl, hk⟩
    exact ⟨_, _, own, rfl, ⟨G.quiet hk, fun _ _ => rfl, Keeps.any hk, FramesO.none _ _ _, ⟨FramesD.none _ _ _ hk.size, fun k hk => by simp [Value.ownBlock] at hk⟩, ⟨vb, d.quiet hk⟩, ⟨vb, rfl, d.v.quiet hk⟩⟩⟩
theorem live_len (hl : Live (ckH most) szN hs) (hb : AreBytes hs) : hs.length ≤ 4294967400 := by
  rcases hl with h | ⟨_, _, h⟩
  · omega
  · have := dL_bounds (hb.take 12)
    have := szH_nat (hb.take 12)
    unfold szH at this
    split at this <;> omega
theorem wants_s (D : DecS A own i j w p most hs dead) : Calls Tryz.prog 30 #[dPtr p] w fun e w' => e = .returned (.int .i64 (wantsS hs dead)) ∧ Keeps Nowhere w w' := by
  cases dead with
  | none =>
    obtain ⟨⟨g, d, hg⟩, l⟩ := D
    refine (wants_m d (live_len l d.b)).mono ?_
    rw [wantsI_live l d.b hg]
    exact fun e w' h => h
  | some h =>
    obtain ⟨vb, ⟨_, ⟨g, c⟩, _⟩⟩ := D
    exact (wants_dead c).mono (by rintro e w' ⟨rfl, n, rfl⟩; exact ⟨rfl, drewN_keeps _ _⟩)
theorem err_s (D : DecS A own i j w p most hs dead) : Calls Tryz.prog 24 #[dPtr p] w fun e w' => ∃ ev, e = .returned ev ∧ Aside (ErrS A own j w' most ev dead) ∧ Aside (Keeps Nowhere w w') := by
  cases dead with
  | none =>
    obtain ⟨g, ⟨_, ⟨hv, d, _⟩, _, _⟩, _⟩ := DecL.d D
    exact (err_live d.c).mono (by rintro e w' ⟨rfl, n, rfl⟩; exact ⟨_, rfl, ⟨rfl⟩, ⟨drewN_keeps _ _⟩⟩)
  | some h =>
    obtain ⟨vb, ⟨_, ⟨g, c⟩, v⟩⟩ := D
    exact (err_dead c).mono (by rintro e w' ⟨rfl, n, rfl⟩; exact ⟨_, rfl, ⟨vb, rfl, v.quiet (drewN_keeps _ _)⟩, ⟨drewN_keeps _ _⟩⟩)
theorem ErrS.quiet {ev : Value} (E : ErrS A own j w most ev dead) (hk : Keeps Nowhere w w') : ErrS A own j w' most ev dead := by
  cases dead with
  | none => exact E
  | some h => obtain ⟨vb, e, v⟩ := E; exact ⟨vb, e, v.quiet hk⟩
theorem ErrS.others {ev : Value} {own' : Nat → Nat} (E : ErrS A own j w most ev dead) (hk : Keeps (fun k => own k = i) w w') (hij : j ≠ i) (he : ∀ k, k < w.heap.size → own' k = own k) : ErrS A own' j w' most ev dead := by
  cases dead with
  | none => exact E
  | some h =>
    obtain ⟨vb, e, o, k, a, b, c, d⟩ := E
    exact ⟨vb, e, (he vb d.lt).trans o, k, a, b, c, d.later hk (fun e' => hij (o.symm.trans e'))⟩
end
end Go.Proofs.YtbbldkldgjmmgaaGreatDoor

/-
  layer 5's laws: 'fixed'.
-/
namespace Go.Proofs.YtbbldkldgjmmgaaGreatDoor
open Go.RowKit

section
variable {A : Nat → Addr} {w0 : World} {own : Nat → Nat} {i j : Nat} {w w' : World} {p : Nat} {most : Int} {hs : List Int} {dead : Option (List Int)}
theorem VioAt.ext {h : List Int} {vb : Nat} {own' : Nat → Nat} (hv : VioAt A own j w most h vb) (he : ∀ k, k < w.heap.size → own' k = own k) : VioAt A own' j w most h vb := by
  obtain ⟨a, k, b, c, d, e⟩ := hv
  exact ⟨(he vb e.lt).trans a, k, b, c, d, e⟩
theorem DecS.ext {own' : Nat → Nat} (D : DecS A own i j w p most hs dead) (he : ∀ k, k < w.heap.size → own' k = own k) : DecS A own' i j w p most hs dead := by
  cases dead with
  | none =>
    obtain ⟨⟨g, d, hg⟩, l⟩ := D
    exact ⟨⟨g, d.ext own' he, hg⟩, l⟩
  | some h =>
    obtain ⟨vb, a, ⟨g, c⟩, v⟩ := D
    exact ⟨vb, (he p c.lt).trans a, ⟨g, c⟩, v.ext he⟩
/-- Feed of bytes that lie in new memory -/
theorem feed_a (hi : i ≠ 0) (hij : j ≠ i) (h3 : 3 ≠ i) {W : World} (G : Gr A w0 own w) (D : DecS A own i j w p most hs dead) (hk : Keeps Nowhere w W) (x : Value) (b : List Int) (R : RdS (fun k => k < w.heap.size ∧ own k = i) W x b) (hb : AreBytes b) (hN : hs.length + b.length ≤ 1099511627776) :
    Calls Tryz.prog 31 #[dPtr p, x] W fun e w' => ∃ fv ev own', e = .returned (.tuple #[fv, ev]) ∧ Aside (Fed A w0 (give own w.heap.size 3) i j W p most (feedO most hs dead b) own' w' fv ev) := by
  have he : ∀ k, k < w.heap.size → give own w.heap.size 3 k = own k := fun k hk => give_old hk
  refine feed_s hi hij ((G.ext he).quiet hk) ((D.ext he).quiet hk) x b (R.mono (fun k e _ => ?_)) hb hN
  rcases Nat.lt_or_ge k w.heap.size with hl | hl
  · exact ⟨hl, (give_old hl).symm.trans e⟩
  · exact absurd ((give_new hl).symm.trans e) h3
theorem rds_new (w : World) (b : List Int) (n : Nat) (hn : b.length = n) : RdS (fun k => k < w.heap.size ∧ own k = i) (w.alloc (.cells (b.map (Value.int .u8)).toArray 5)) (.slice (some ⟨w.heap.size, 0, none⟩) n n) b := by
  subst hn
  have h := (row_new w 5 (bv b)).reads (S := fun k => k < w.heap.size ∧ own k = i) (fun k hk => by simp [Value.ownBlock] at hk; omega)
  rw [bv_length] at h
  exact ⟨h, fun l c e => by injection e with e; cases e⟩
/-- Feed of a literal -/
theorem feed_new (G : Gr A w0 own w) (D : DecS A own 1 2 w p most hs dead) (b : List Int) (n : Nat) (hn : b.length = n) (hb : AreBytes b) (hN : hs.length + b.length ≤ 1099511627776) (o : Out) (ho : feedO most hs dead b = o) (ob : Obj) (hob : ob = .cells (b.map (Value.int .u8)).toArray 5) :
    Calls Tryz.prog 31 #[dPtr p, .slice (some ⟨w.heap.size, 0, none⟩) n n] (w.alloc ob) fun e w' => ∃ q c ev own', e = .returned (.tuple #[.slice q o.fs.length c, ev]) ∧ Aside (Fed A w0 (give own w.heap.size 3) 1 2 (w.alloc ob) p most o own' w' (.slice q o.fs.length c) ev) := by
  subst ho hob
  refine (feed_a (by decide) (by decide) (by decide) G D ((Keeps.refl _ _).alloc _) _ b (rds_new w b n hn) hb hN).mono ?_
  rintro e w' ⟨fv, ev, own', rfl, X⟩
  obtain ⟨q, c, rfl⟩ := X.it.F.shape
  exact ⟨q, c, ev, own', rfl, X⟩
theorem fcells_get : ∀ (xs : List FX) (k m : Nat) (x : FX), xs[k]? = some x → m < 6 → (fcells xs)[k * 6 + m]? = (frmL x.1.1 x.2)[m]?
  | [], k, m, x, h, _ => by simp at h
  | y :: xs, 0, m, x, h, hm => by
    simp only [List.getElem?_cons_zero, Option.some.injEq] at h
    subst h
    rw [fcells, List.flatMap_cons, Nat.zero_mul, Nat.zero_add, List.getElem?_append_left (by simpa using hm)]
  | y :: xs, k + 1, m, x, h, hm => by
    have ih := fcells_get xs k m x (by simpa using h) hm
    rw [fcells, List.flatMap_cons, List.getElem?_append_right (by simp; omega)]
    rw [← ih, fcells]
    congr 1
    simp
    omega
/-- a frame's six cells -/
def FrAt (w : World) (g o : Nat) (h : List Int) (dv : Value) : Prop :=
  w.cell? ⟨g, o, none⟩ = some (.int .u8 (dV h)) ∧ w.cell? ⟨g, o + 1, none⟩ = some (.int .u8 (dT h)) ∧ w.cell? ⟨g, o + 2, none⟩ = some (.int .u16 (dF h)) ∧ w.cell? ⟨g, o + 3, none⟩ = some (.int .u32 (dS h)) ∧ w.cell? ⟨g, o + 4, none⟩ = some (.int .u32 (dL h)) ∧ w.cell? ⟨g, o + 5, none⟩ = some dv
/-- frames that can be read -/
def FramesR (w : World) (v : Value) (fs : List (List Int × List Int)) : Prop := ∃ xs : List FX, xs.map (·.1) = fs ∧ ReadsK 6 w v xs.length (fcells xs) ∧ ∀ x ∈ xs, Rd w x.2 x.1.2
theorem DataO.rd {v : Value} {ns : List Int} (h : DataO own j w v ns) : Rd w v ns := (show OwnB 0 w v ns from h.1).rd
theorem FramesO.reads {v : Value} {fs : List (List Int × List Int)} (h : FramesO own j w v fs) : FramesR w v fs := by
  obtain ⟨xs, h1, h2, h3, h4⟩ := h
  exact ⟨xs, h1, owns_readsK h2, fun x hx => (h4 x hx).rd⟩
theorem FramesR.shape {v : Value} {fs : List (List Int × List Int)} (F : FramesR w v fs) : ∃ q c, v = .slice q fs.length c := by
  obtain ⟨xs, h1, ⟨_, a, c, e, _⟩, _⟩ := F
  exact ⟨a, c, by rw [e, ← h1, List.length_map]⟩
theorem FramesR.at {q : Option Addr} {l c k : Nat} {h d : List Int} {fs : List (List Int × List Int)} (F : FramesR w (.slice q l c) fs) (hk : fs[k]? = some (h, d)) :
    ∃ g o dq dc, q = some ⟨g, o, none⟩ ∧ Aside (FrAt w g (o + k * 6) h (.slice dq d.length dc)) ∧ Aside (Rd w (.slice dq d.length dc) d) := by
  obtain ⟨xs, h1, ⟨_, a, c', e, _, _, _, hc⟩, h4⟩ := F
  injection e with e1 e2 e3
  subst e1 e2 e3
  rw [← h1, List.getElem?_map, Option.map_eq_some_iff] at hk
  obtain ⟨x, hx, ex⟩ := hk
  have hr := h4 x (List.mem_of_getElem? hx)
  obtain ⟨dq, dc, ed⟩ := hr.shape
  have g0 := fun m (hm : m < 6) u (hu : (frmL x.1.1 x.2)[m]? = some u) => hc (k * 6 + m) u ((fcells_get xs k m x hx hm).trans hu)
  obtain ⟨g, o, rfl, c0⟩ := g0 0 (by decide) _ rfl
  have gg : ∀ m (hm : m < 6) u (hu : (frmL x.1.1 x.2)[m]? = some u), w.cell? ⟨g, o + k * 6 + m, none⟩ = some u := fun m hm u hu => by
    obtain ⟨g', o', e, cc⟩ := g0 m hm u hu
    injection e with e
    injection e with e1 e2
    subst e1 e2
    rw [Nat.add_assoc]
    exact cc
  have ex1 : x.1.1 = h := by rw [ex]
  have ex2 : x.1.2 = d := by rw [ex]
  rw [ex1] at gg
  rw [ed, ex2] at gg
  refine ⟨g, o, dq, dc, rfl, ⟨gg 0 (by decide) _ rfl, gg 1 (by decide) _ rfl, gg 2 (by decide) _ rfl, gg 3 (by decide) _ rfl, gg 4 (by decide) _ rfl, gg 5 (by decide) _ rfl⟩, ⟨?_⟩⟩
  rw [ed, ex2] at hr
  exact hr

abbrev fx1 : List Int := [0, 1, 0, 1, 0, 0]
abbrev fx2 : List Int := [0, 7, 0, 0, 0, 0, 1]
abbrev fx3 : List Int := [0, 0, 0, 0, 0, 0, 9, 0, 0, 0, 0]
abbrev fxh : List Int := [0, 1, 0, 1, 0, 0, 0, 7, 0, 0, 0, 0]
abbrev fxd : List Int := [1, 0, 0, 0, 0, 0, 0, 9, 0, 0, 0, 0]
theorem fx_1 : feedO 3 [] none fx1 = ⟨[], fx1, none⟩ := parse_short (by decide)
theorem fx_ok : ckH 3 fxh = true := by decide +kernel
theorem fx_sz : szN fxh = 0 := by decide +kernel
theorem fx_2 : feedO 3 fx1 none fx2 = ⟨[(fxh, [])], [1], none⟩ := by
  have := parse_frame (ck := ckH 3) (sz := szN) fxh [] [1] rfl fx_ok (by rw [fx_sz]; rfl)
  rw [parse_short (ns := [1]) (by decide)] at this
  exact this
theorem fx_bad : ckH 3 fxd = false := by decide +kernel
theorem fx_3 : feedO 3 [1] none fx3 = ⟨[], [], some fxd⟩ := parse_dead (ck := ckH 3) (sz := szN) fxd [] rfl fx_bad
theorem fx_code : codeS 3 (some fxd) = 1011 := by decide +kernel
theorem fx_strm : strmS (some fxd) = 9 := by decide +kernel
theorem fx_want : wantsS fx1 none = 6 := by decide +kernel
theorem fx_hv : dV fxh = 0 := by decide +kernel
theorem fx_ht : dT fxh = 1 := by decide +kernel
theorem fx_hf : dF fxh = 1 := by decide +kernel
theorem fx_hs : dS fxh = 7 := by decide +kernel
theorem fx_hl : dL fxh = 0 := by decide +kernel
theorem areBytes_of (b : List Int) (h : b.all (fun n => decide (0 ≤ n ∧ n ≤ 255)) = true) : AreBytes b := fun n hn => of_decide_eq_true (List.all_eq_true.1 h n hn)
end
end Go.Proofs.YtbbldkldgjmmgaaGreatDoor

