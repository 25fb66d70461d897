/-
  FeedBack: the bytes and the frames gathered.
-/
import Derived.Test.YtfdfibajlggeeaaDoorFeedV
import Derived.Test.YtfdfibajlggeeaaDoorFrameBk
import Derived.Test.YtfdfibajlggeeaaDoorSameFr
import Derived.Test.YtfdfibajlggeeaaDoorOpenFs
namespace Go.Proofs.YtfdfibajlggeeaaDoor
open Go.RowKit

section
variable {A : Nat → Addr} {w w' w0 W : World} {most : Int} {bv' wv : Value} {fs : List (List Int × List Int)} {v t f s l : Int} {d : Value} {ns : List Int} {p : Nat}
/-- what is gathered: the bytes, and the frames that they are of -/
structure Fz (A : Nat → Addr) (w0 : World) (most : Int) (bv' wv : Value) (fs : List (List Int × List Int)) (w : World) : Prop where
  base : Base A w0
  bel : Below w0.heap.size w0 w
  b : OwnB w0.heap.size w bv' (flat fs)
  want : ∃ xs : List FX, xs.map (·.1) = fs ∧ w.ownsRow w0.heap.size 31 6 wv xs.length (fcells xs) ∧ ∀ x ∈ xs, Rd w0 x.2 x.1.2
  ok : ∀ x ∈ fs, FrOk (ckH most) szN x ∧ AreBytes x.1 ∧ AreBytes x.2
theorem Fz.later (h : Fz A w0 most bv' wv fs w) (hb : Below w.heap.size w w') : Fz A w0 most bv' wv fs w' := by
  obtain ⟨xs, e, o, r⟩ := h.want
  exact ⟨h.base, h.bel.trans (hb.mono h.bel.size), h.b.later hb, ⟨xs, e, owns_later o (Keeps.ofBelow (S := Nowhere) hb) (fun _ _ x => x), r⟩, h.ok⟩
theorem Fz.now (h : Fz A w0 most bv' wv fs w) : Base A w := h.base.later h.bel
theorem Fz.start (B : Base A w) : Fz A w most (.slice none 0 0) (.slice none 0 0) [] w :=
  ⟨B, Below.refl _ _, World.ownsRow_nil _ _ _ _, ⟨[], rfl, World.ownsRow_nil _ _ _ _, fun x hx => by cases hx⟩, fun x hx => by cases hx⟩
theorem Fz.frames (h : Fz A w0 most bv' wv fs w) : FramesR w wv fs := by
  obtain ⟨xs, e, o, r⟩ := h.want
  exact ⟨xs, e, owns_readsK o, fun x hx => (r x hx).later h.bel⟩
/-- the bytes are longer: the frames stay -/
theorem Fz.appB (h : Fz A w0 most bv' wv fs w) (k : Keeps (fun b => bv'.ownBlock = some b) w w') : Below w0.heap.size w0 w' ∧ ∃ xs : List FX, xs.map (·.1) = fs ∧ w'.ownsRow w0.heap.size 31 6 wv xs.length (fcells xs) ∧ ∀ x ∈ xs, Rd w0 x.2 x.1.2 := by
  obtain ⟨xs, e, ow, r⟩ := h.want
  refine ⟨below_next h.bel k h.bel.size (fun b hb _ => owns_base h.b b hb), xs, e, owns_later ow k (fun b hb e' => ?_), r⟩
  exact owns_owns (owns_any ow) (owns_any h.b) (by decide) b hb e'
/-- one frame more -/
theorem Fz.appW {v1 v2 : Value} {x : FX} (B : Base A w0) (hbel : Below w0.heap.size w0 w) (ob : OwnB w0.heap.size w v1 (flat (fs ++ [x.1]))) (hok : ∀ x ∈ fs, FrOk (ckH most) szN x ∧ AreBytes x.1 ∧ AreBytes x.2) (hx : FrOk (ckH most) szN x.1 ∧ AreBytes x.1.1 ∧ AreBytes x.1.2) (hr : Rd w0 x.2 x.1.2)
    {xs : List FX} (e : xs.map (·.1) = fs) (ow : w.ownsRow w0.heap.size 31 6 wv xs.length (fcells xs)) (r : ∀ x ∈ xs, Rd w0 x.2 x.1.2) (o : w'.ownsRow w0.heap.size 31 6 v2 (xs.length + 1) (fcells xs ++ frmL x.1.1 x.2)) {w1 : World} (k1 : Keeps Nowhere w w1) (k : Keeps (fun b => wv.ownBlock = some b) w1 w') :
    Fz A w0 most v1 v2 (fs ++ [x.1]) w' := by
  refine ⟨B, below_next (below_next hbel k1 hbel.size (fun _ x _ => x.elim)) k (Nat.le_trans hbel.size k1.size) (fun b hb _ => owns_base ow b hb), ?_, ⟨xs ++ [x], by simp [e], ?_, ?_⟩, ?_⟩
  · exact owns_later (owns_later ob k1 (fun _ _ x => x)) k (fun b hb e' => owns_owns (owns_any ob) (owns_any ow) (by decide) b hb e')
  · rw [List.length_append, fcells_append, fcells_one]
    exact o
  · intro y hy
    rcases List.mem_append.1 hy with h | h
    · exact r y h
    · simp only [List.mem_singleton] at h; subst h; exact hr
  · intro y hy
    rcases List.mem_append.1 hy with h | h
    · exact hok y h
    · simp only [List.mem_singleton] at h; subst h; exact hx
/-- what the bytes of frames that may be are read as -/
theorem prs_flat (h : ∀ x ∈ fs, FrOk (ckH most) szN x) : prs most (flat fs) = ⟨fs, [], none⟩ := by
  have := parse_flat (ck := ckH most) (sz := szN) fs [] h
  rw [List.append_nil] at this
  show parse (ckH most) szN (flat fs) = _
  rw [this, parse_short (by decide)]
  simp
theorem flat_bytes (h : ∀ x ∈ fs, AreBytes x.1 ∧ AreBytes x.2) : AreBytes (flat fs) := by
  induction fs with
  | nil => intro n hn; cases hn
  | cons x r ih =>
    intro n hn
    have e : flat (x :: r) = (x.1 ++ x.2) ++ flat r := rfl
    rw [e] at hn
    rcases List.mem_append.1 hn with hn | hn
    · rcases List.mem_append.1 hn with hn | hn
      · exact (h x (by simp)).1 n hn
      · exact (h x (by simp)).2 n hn
    · exact ih (fun y hy => h y (by simp [hy])) n hn
end
end Go.Proofs.YtfdfibajlggeeaaDoor
