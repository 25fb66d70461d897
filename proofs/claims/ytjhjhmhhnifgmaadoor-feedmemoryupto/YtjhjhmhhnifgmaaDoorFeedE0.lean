/-
  package feed: frames in memory; what one round of Feed does to the bytes.
-/
import Derived.Test.YtjhjhmhhnifgmaaDoorFeedD
namespace Go.Proofs.YtjhjhmhhnifgmaaDoor
open Go.RowKit

section
variable {ck : List Int → Bool} {sz : List Int → Nat} {hs bs : List Int} {n : Nat}
theorem round_same (hs bs : List Int) (n : Nat) : (hs ++ bs.take n) ++ bs.drop n = hs ++ bs := by rw [List.append_assoc, List.take_append_drop]
theorem round_len (hs bs : List Int) (hn : n ≤ bs.length) : (hs ++ bs.take n).length = hs.length + n := by simp; omega
theorem round_12 (hn : n ≤ bs.length) (h0 : 0 < n) (h : (hs ++ bs.take n).length = 12) : hs.length < 12 := by
  rw [round_len hs bs hn] at h
  omega
theorem round_more (hl : Live ck sz hs) (hn : n ≤ bs.length) (hw : n ≤ wantsP sz hs) (h : 12 < (hs ++ bs.take n).length) :
    12 ≤ hs.length ∧ (hs ++ bs.take n).take 12 = hs.take 12 ∧ ck (hs.take 12) = true ∧ (hs ++ bs.take n).length ≤ 12 + sz (hs.take 12) := by
  rw [round_len hs bs hn] at *
  unfold wantsP at hw
  rcases hl with hl | ⟨h1, h2, h3⟩
  · rw [if_pos hl] at hw; omega
  · rw [if_neg (by omega)] at hw
    exact ⟨h1, by rw [List.take_append_of_le_length h1], h2, by omega⟩
/-- a round ends with a header that may not be -/
theorem round_dead (h : (hs ++ bs.take n).length = 12) (hc : ck (hs ++ bs.take n) = false) : parse ck sz (hs ++ bs) = ⟨[], [], some (hs ++ bs.take n)⟩ := by
  rw [← round_same hs bs n]
  exact parse_dead _ _ h hc
/-- a round ends with a whole frame -/
theorem round_frame (x : List Int) (hx : x ++ bs.drop n = hs ++ bs) (h12 : 12 ≤ x.length) (hc : ck (x.take 12) = true) (hlen : x.length = 12 + sz (x.take 12)) :
    parse ck sz (hs ++ bs) = ⟨(x.take 12, x.drop 12) :: (parse ck sz (bs.drop n)).fs, (parse ck sz (bs.drop n)).rest, (parse ck sz (bs.drop n)).dead⟩ := by
  rw [← hx]
  have := parse_frame (ck := ck) (sz := sz) (x.take 12) (x.drop 12) (bs.drop n) (by simp; omega) hc (by simp; omega)
  rwa [List.take_append_drop] at this
end

abbrev FX : Type := (List Int × List Int) × Value
/-- frames' cells -/
def fcells (xs : List FX) : List Value := xs.flatMap fun x => frmL x.1.1 x.2
theorem fcells_length (xs : List FX) : (fcells xs).length = xs.length * 6 := by
  induction xs with
  | nil => rfl
  | cons x xs ih => simp only [fcells, List.flatMap_cons, List.length_append, List.length_cons] at *; rw [ih]; simp; omega
theorem fcells_append (xs ys : List FX) : fcells (xs ++ ys) = fcells xs ++ fcells ys := by simp [fcells]
theorem fcells_one (x : FX) : fcells [x] = frmL x.1.1 x.2 := by simp [fcells]
/-- a row of frames that is j's, their payloads too -/
def FramesO (own : Nat → Nat) (j : Nat) (w : World) (fv : Value) (fs : List (List Int × List Int)) : Prop :=
  ∃ xs : List FX, xs.map (·.1) = fs ∧ w.ownsRow 0 46 6 fv xs.length (fcells xs) ∧ (∀ k, fv.ownBlock = some k → own k = j) ∧ ∀ x ∈ xs, DataO own j w x.2 x.1.2
section
variable {own own' : Nat → Nat} {i j : Nat} {w w' : World}
theorem DataO.others {v : Value} {ns : List Int} (h : DataO own j w v ns) (hk : Keeps (fun k => own k = i) w w') (hij : j ≠ i) (he : ∀ k, k < w.heap.size → own' k = own k) : DataO own' j w' v ns :=
  ⟨owns_later h.1 hk (fun b hb e => hij ((h.2 b hb).symm.trans e)), fun k hk' => (he k (owns_lt h.1 k hk')).trans (h.2 k hk')⟩
theorem FramesO.none (own : Nat → Nat) (j : Nat) (w : World) : FramesO own j w (.slice none 0 0) [] := ⟨[], rfl, World.ownsRow_nil _ _ _ _, fun k hk => by simp [Value.ownBlock] at hk, fun x hx => by cases hx⟩
theorem FramesO.others {fv : Value} {fs : List (List Int × List Int)} (h : FramesO own j w fv fs) (hk : Keeps (fun k => own k = i) w w') (hij : j ≠ i) (he : ∀ k, k < w.heap.size → own' k = own k) : FramesO own' j w' fv fs := by
  obtain ⟨xs, h1, h2, h3, h4⟩ := h
  exact ⟨xs, h1, owns_later h2 hk (fun b hb e => hij ((h3 b hb).symm.trans e)), fun k hk' => (he k (owns_lt h2 k hk')).trans (h3 k hk'), fun x hx => (h4 x hx).others hk hij he⟩
theorem FramesO.shape {fv : Value} {fs : List (List Int × List Int)} (h : FramesO own j w fv fs) : ∃ q c, fv = .slice q fs.length c := by
  obtain ⟨xs, h1, h2, h3, h4⟩ := h
  obtain ⟨q, c, e⟩ := owns_val h2
  exact ⟨q, c, by rw [e, ← h1, List.length_map]⟩
theorem owns_owns {e e' : TypeId} {k k' n n' : Nat} {v v' : Value} {xs xs' : List Value} (h : w.ownsRow 0 e k v n xs) (h' : w.ownsRow 0 e' k' v' n' xs') (hne : e ≠ e') (b : Nat) (hb : v.ownBlock = some b) : v'.ownBlock ≠ some b := by
  intro hb'
  rcases h.2 with ⟨rfl, _⟩ | ⟨g, cap, cur, rfl, _, hg, _⟩
  · simp [Value.ownBlock] at hb
  rcases h'.2 with ⟨rfl, _⟩ | ⟨g', cap', cur', rfl, _, hg', _⟩
  · simp [Value.ownBlock] at hb'
  simp only [Value.ownBlock, Option.some.injEq] at hb hb'
  subst hb hb'
  rw [hg] at hg'
  injection hg' with hg'
  injection hg' with _ hg'
  exact hne hg'
/-- one frame more -/
theorem FramesO.push {fv v' : Value} {xs : List FX} {h d : List Int} {dv : Value} (h2 : w.ownsRow 0 46 6 fv xs.length (fcells xs)) (h3 : ∀ k, fv.ownBlock = some k → own k = j) (h4 : ∀ x ∈ xs, DataO own j w x.2 x.1.2) (hd : DataO own j w dv d)
    (o : w'.ownsRow 0 46 6 v' (xs.length + 1) (fcells xs ++ frmL h dv)) (k2 : Keeps (fun b => fv.ownBlock = some b) w w') (b2 : ∀ b, v'.ownBlock = some b → fv.ownBlock = some b ∨ w.heap.size ≤ b) :
    FramesO (give own w.heap.size j) j w' v' (xs.map (·.1) ++ [(h, d)]) := by
  have hdat : ∀ v ns, DataO own j w v ns → DataO (give own w.heap.size j) j w' v ns := fun v ns hx =>
    ⟨owns_later hx.1 k2 (fun b hb e => owns_owns hx.1 h2 (by decide) b hb e), fun k hk => (give_old (owns_lt hx.1 k hk)).trans (hx.2 k hk)⟩
  refine ⟨xs ++ [((h, d), dv)], by simp, ?_, fun k hk => ?_, fun x hx => ?_⟩
  · rw [fcells_append, fcells_one, List.length_append]
    exact o
  · rcases b2 k hk with e | e
    · exact (give_old (owns_lt h2 k e)).trans (h3 k e)
    · exact give_new e
  · rcases List.mem_append.1 hx with hx | hx
    · exact hdat _ _ (h4 x hx)
    · rw [List.mem_singleton] at hx
      subst hx
      exact hdat _ _ hd
/-- no two payloads lie in one block -/
def Apart6 (xs : List FX) : Prop := ∀ (t t' : Nat) (x x' : FX) (b : Nat), xs[t]? = some x → xs[t']? = some x' → x.2.ownBlock = some b → x'.2.ownBlock = some b → t = t'
theorem Apart6.nil : Apart6 [] := fun t t' x x' b h => by simp at h
theorem Apart6.join {xs ys : List FX} {base : Nat} (hx : Apart6 xs) (hy : Apart6 ys) (h1 : ∀ x ∈ xs, ∀ b, x.2.ownBlock = some b → b < base) (h2 : ∀ x ∈ ys, ∀ b, x.2.ownBlock = some b → base ≤ b) : Apart6 (xs ++ ys) := by
  intro t t' x x' b e e' f f'
  rcases Nat.lt_or_ge t xs.length with ht | ht
  · rw [List.getElem?_append_left ht] at e
    have g := h1 x (List.mem_of_getElem? e) b f
    rcases Nat.lt_or_ge t' xs.length with ht' | ht'
    · rw [List.getElem?_append_left ht'] at e'
      exact hx t t' x x' b e e' f f'
    · rw [List.getElem?_append_right ht'] at e'
      have g' := h2 x' (List.mem_of_getElem? e') b f'
      omega
  · rw [List.getElem?_append_right ht] at e
    have g := h2 x (List.mem_of_getElem? e) b f
    rcases Nat.lt_or_ge t' xs.length with ht' | ht'
    · rw [List.getElem?_append_left ht'] at e'
      have g' := h1 x' (List.mem_of_getElem? e') b f'
      omega
    · rw [List.getElem?_append_right ht'] at e'
      have := hy _ _ x x' b e e' f f'
      omega
/-- frames whose payloads lie in blocks of their own, from lo on, below base -/
def FramesE (own : Nat → Nat) (j : Nat) (w : World) (fv : Value) (fs : List (List Int × List Int)) (lo base : Nat) : Prop :=
  ∃ xs : List FX, xs.map (·.1) = fs ∧ w.ownsRow 0 46 6 fv xs.length (fcells xs) ∧ (∀ k, fv.ownBlock = some k → own k = j) ∧ (∀ x ∈ xs, DataO own j w x.2 x.1.2) ∧ Apart6 xs ∧ (∀ x ∈ xs, ∀ b, x.2.ownBlock = some b → lo ≤ b ∧ b < base) ∧ lo ≤ base
def FramesD (own : Nat → Nat) (j : Nat) (w : World) (fv : Value) (fs : List (List Int × List Int)) (lo : Nat) : Prop := FramesE own j w fv fs lo w.heap.size
theorem FramesE.o {fv : Value} {fs : List (List Int × List Int)} {lo base : Nat} (h : FramesE own j w fv fs lo base) : FramesO own j w fv fs := by
  obtain ⟨xs, h1, h2, h3, h4, _⟩ := h
  exact ⟨xs, h1, h2, h3, h4⟩
theorem FramesD.o {fv : Value} {fs : List (List Int × List Int)} {lo : Nat} (h : FramesD own j w fv fs lo) : FramesO own j w fv fs := FramesE.o h
theorem FramesE.low {fv : Value} {fs : List (List Int × List Int)} {lo base : Nat} (h : FramesE own j w fv fs lo base) (hl : lo ≤ w.heap.size) : FramesD own j w fv fs lo := by
  obtain ⟨xs, h1, h2, h3, h4, h5, h6, _⟩ := h
  exact ⟨xs, h1, h2, h3, h4, h5, fun x hx b hb => ⟨(h6 x hx b hb).1, owns_lt (h4 x hx).1 b hb⟩, hl⟩
theorem FramesE.others {fv : Value} {fs : List (List Int × List Int)} {lo base : Nat} (h : FramesE own j w fv fs lo base) (hk : Keeps (fun k => own k = i) w w') (hij : j ≠ i) (he : ∀ k, k < w.heap.size → own' k = own k) : FramesE own' j w' fv fs lo base := by
  obtain ⟨xs, h1, h2, h3, h4, h5⟩ := h
  exact ⟨xs, h1, owns_later h2 hk (fun b hb e => hij ((h3 b hb).symm.trans e)), fun k hk' => (he k (owns_lt h2 k hk')).trans (h3 k hk'), fun x hx => (h4 x hx).others hk hij he, h5⟩
theorem FramesD.others {fv : Value} {fs : List (List Int × List Int)} {lo : Nat} (h : FramesD own j w fv fs lo) (hk : Keeps (fun k => own k = i) w w') (hij : j ≠ i) (he : ∀ k, k < w.heap.size → own' k = own k) : FramesD own' j w' fv fs lo := by
  have hl : lo ≤ w.heap.size := by obtain ⟨xs, _, _, _, _, _, _, hl⟩ := h; exact hl
  exact (FramesE.others h hk hij he).low (Nat.le_trans hl hk.size)
theorem FramesD.quiet {fv : Value} {fs : List (List Int × List Int)} {lo : Nat} (h : FramesD own j w fv fs lo) (hk : Keeps Nowhere w w') : FramesD own j w' fv fs lo := by
  obtain ⟨xs, f1, f2, f3, f4, f5, f6, f7⟩ := h
  exact ⟨xs, f1, owns_later f2 hk (fun _ _ e => e), f3, fun x hx => ⟨owns_later (f4 x hx).1 hk (fun _ _ e => e), (f4 x hx).2⟩, f5, fun x hx b hb => ⟨(f6 x hx b hb).1, Nat.lt_of_lt_of_le (f6 x hx b hb).2 hk.size⟩, Nat.le_trans f7 hk.size⟩
theorem FramesD.none (own : Nat → Nat) (j : Nat) (w : World) {lo : Nat} (hl : lo ≤ w.heap.size) : FramesD own j w (.slice none 0 0) [] lo := ⟨[], rfl, World.ownsRow_nil _ _ _ _, fun k hk => by simp [Value.ownBlock] at hk, fun x hx => (by cases hx), Apart6.nil, fun x hx => (by cases hx), hl⟩
theorem FramesE.push {fv v' : Value} {xs : List FX} {h d : List Int} {dv : Value} {lo base : Nat} (h2 : w.ownsRow 0 46 6 fv xs.length (fcells xs)) (h3 : ∀ k, fv.ownBlock = some k → own k = j) (h4 : ∀ x ∈ xs, DataO own j w x.2 x.1.2) (h5 : Apart6 xs ∧ (∀ x ∈ xs, ∀ b, x.2.ownBlock = some b → lo ≤ b ∧ b < base) ∧ lo ≤ base) (hd : DataO own j w dv d) (hn : ∀ b, dv.ownBlock = some b → base ≤ b) (hl : lo ≤ w.heap.size)
    (o : w'.ownsRow 0 46 6 v' (xs.length + 1) (fcells xs ++ frmL h dv)) (k2 : Keeps (fun b => fv.ownBlock = some b) w w') (b2 : ∀ b, v'.ownBlock = some b → fv.ownBlock = some b ∨ w.heap.size ≤ b) :
    FramesD (give own w.heap.size j) j w' v' (xs.map (·.1) ++ [(h, d)]) lo := by
  have hdat : ∀ v ns, DataO own j w v ns → DataO (give own w.heap.size j) j w' v ns := fun v ns hx =>
    ⟨owns_later hx.1 k2 (fun b hb e => owns_owns hx.1 h2 (by decide) b hb e), fun k hk => (give_old (owns_lt hx.1 k hk)).trans (hx.2 k hk)⟩
  have hall : ∀ x ∈ xs ++ [((h, d), dv)], DataO (give own w.heap.size j) j w' x.2 x.1.2 := fun x hx => by
    rcases List.mem_append.1 hx with hx | hx
    · exact hdat _ _ (h4 x hx)
    · rw [List.mem_singleton] at hx
      subst hx
      exact hdat _ _ hd
  refine ⟨xs ++ [((h, d), dv)], by simp, ?_, fun k hk => ?_, hall, ?_, fun x hx b hb => ⟨?_, owns_lt (hall x hx).1 b hb⟩, Nat.le_trans hl k2.size⟩
  · rw [fcells_append, fcells_one, List.length_append]
    exact o
  · rcases b2 k hk with e | e
    · exact (give_old (owns_lt h2 k e)).trans (h3 k e)
    · exact give_new e
  · refine h5.1.join (base := base) (fun t t' x x' b e e' _ _ => ?_) (fun x hx b hb => (h5.2.1 x hx b hb).2) (fun x hx b hb => ?_)
    · have := (List.getElem?_eq_some_iff.1 e).1
      have := (List.getElem?_eq_some_iff.1 e').1
      simp at *
      omega
    · rw [List.mem_singleton] at hx
      subst hx
      exact hn b hb
  · rcases List.mem_append.1 hx with hx | hx
    · exact (h5.2.1 x hx b hb).1
    · rw [List.mem_singleton] at hx
      subst hx
      exact Nat.le_trans h5.2.2 (hn b hb)
end
theorem frameInfo : (Tryd.prog.info? 46).map (fun i => (i.zero, i.size, i.bytes)) = some (some (.agg zeroF.toArray), 6, 40) := by kernel_rfl
end Go.Proofs.YtjhjhmhhnifgmaaDoor
