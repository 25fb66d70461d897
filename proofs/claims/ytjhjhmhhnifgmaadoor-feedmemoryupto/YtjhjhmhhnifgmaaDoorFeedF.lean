/-
  package feed: Feed, walked.
-/
import Derived.Test.YtjhjhmhhnifgmaaDoorFeedE
namespace Go.Proofs.YtjhjhmhhnifgmaaDoor
open Go.RowKit

def slen : Value → Nat
  | .slice _ l _ => l
  | _ => 0
/-- a dead decoder, whose violation lies in vb -/
structure DeadV (A : Nat → Addr) (own : Nat → Nat) (i j : Nat) (w : World) (p : Nat) (most : Int) (h : List Int) (vb : Nat) : Prop where
  hp : own p = i
  c : ∃ g, Cells w p 55 (decL most (.slice none 0 0) (dV g) (dT g) (dF g) (dS g) (dL g) (dPtr vb))
  v : VioAt A own j w most h vb
/-- a decoder that lives -/
structure DecL (own : Nat → Nat) (i : Nat) (w : World) (p : Nat) (most : Int) (hs : List Int) : Prop where
  d : ∃ g, DecM own i w p most hs g ∧ (12 ≤ hs.length → g = hs.take 12)
  l : Live (ckH most) szN hs
/-- a decoder -/
def DecS (A : Nat → Addr) (own : Nat → Nat) (i j : Nat) (w : World) (p : Nat) (most : Int) (hs : List Int) (dead : Option (List Int)) : Prop :=
  match dead with
  | none => DecL own i w p most hs
  | some h => ∃ vb, DeadV A own i j w p most h vb
/-- the error that tells of its death -/
def ErrS (A : Nat → Addr) (own : Nat → Nat) (j : Nat) (w : World) (most : Int) (ev : Value) (dead : Option (List Int)) : Prop :=
  match dead with
  | none => ev = .nilIface
  | some h => ∃ vb, ev = vio vb ∧ VioAt A own j w most h vb
/-- what Feed has done -/
structure Fed (A : Nat → Addr) (w0 : World) (own : Nat → Nat) (i j : Nat) (w : World) (p : Nat) (most : Int) (o : Out) (own' : Nat → Nat) (W : World) (fv ev : Value) : Prop where
  G : Gr A w0 own' W
  ext : ∀ k, k < w.heap.size → own' k = own k
  K : Keeps (fun k => own k = i) w W
  F : FramesO own' j W fv o.fs
  N : FramesD own' j W fv o.fs w.heap.size ∧ ∀ k, fv.ownBlock = some k → w.heap.size ≤ k
  D : DecS A own' i j W p most o.rest o.dead
  E : ErrS A own' j W most ev o.dead

section
variable {A : Nat → Addr} {w0 : World} {own : Nat → Nat} {i j : Nat} {w w' : World} {p : Nat} {most : Int} {hs : List Int}
theorem VioAt.quiet {h : List Int} {vb : Nat} (hv : VioAt A own j w most h vb) (hk : Keeps Nowhere w w') : VioAt A own j w' most h vb := by
  obtain ⟨a, k, b, c, d, e⟩ := hv
  exact ⟨a, k, b, c, d, e.later hk (fun x => x)⟩
theorem FramesO.quiet {fv : Value} {fs : List (List Int × List Int)} (h : FramesO own j w fv fs) (hk : Keeps Nowhere w w') : FramesO own j w' fv fs := by
  obtain ⟨xs, f1, f2, f3, f4⟩ := h
  exact ⟨xs, f1, owns_later f2 hk (fun _ _ e => e), f3, fun x hx => ⟨owns_later (f4 x hx).1 hk (fun _ _ e => e), (f4 x hx).2⟩⟩
theorem DecL.quiet (h : DecL own i w p most hs) (hk : Keeps Nowhere w w') : DecL own i w' p most hs := by
  obtain ⟨⟨g, d, hg⟩, l⟩ := h
  exact ⟨⟨g, d.quiet hk, hg⟩, l⟩
theorem drewN_keeps (w : World) (n : Nat) : Keeps Nowhere w (w.drewN n) := (Keeps.refl _ _).drewN n
/-- the end, alive -/
theorem FeedAt.fin {W : World} {own' : Nat → Nat} {T : Out} {N : Nat} {fs : List (List Int × List Int)} {x whole : Value} (h : FeedAt A w0 own i j w p most T N own' W hs [] fs x whole) (n : Nat) : Fed A w0 own i j w p most T own' (W.drewN n) whole .nilIface := by
  have hT := h.T
  rw [List.append_nil, prs, h.live.parse] at hT
  subst hT
  obtain ⟨g, d, hg⟩ := h.D
  exact ⟨h.G.quiet (drewN_keeps _ _), h.ext, h.K.drewN n, by simpa using (h.F.quiet (drewN_keeps W n)).o, ⟨by simpa using h.F.quiet (drewN_keeps W n), h.fr⟩, ⟨⟨g, d.quiet (drewN_keeps _ _), hg⟩, h.live⟩, rfl⟩
/-- the end, dead -/
theorem DiedAt.fin {W : World} {own' : Nat → Nat} {h : List Int} {fs : List (List Int × List Int)} {whole : Value} {vb : Nat} (hd : DiedAt A w0 own i j w p most own' W h fs whole) (n : Nat) (hp : own' p = i) (c : ∃ g, Cells W p 55 (decL most (.slice none 0 0) (dV g) (dT g) (dF g) (dS g) (dL g) (dPtr vb))) (v : VioAt A own' j W most h vb) (o : Out)
    (h1 : o.fs = fs) (h3 : o.dead = some h) : Fed A w0 own i j w p most o own' (W.drewN n) whole (vio vb) := by
  obtain ⟨ofs, orest, odead⟩ := o
  simp only at h1 h3
  subst h1 h3
  exact ⟨hd.G.quiet (drewN_keeps _ _), hd.ext, hd.K.drewN n, (hd.F.quiet (drewN_keeps _ _)).o, ⟨hd.F.quiet (drewN_keeps _ _), hd.fr⟩, ⟨vb, hp, c, v.quiet (drewN_keeps _ _)⟩, ⟨vb, rfl, v.quiet (drewN_keeps _ _)⟩⟩
/-- one round that goes on -/
theorem FeedAt.on {W W' : World} {own' own'' : Nat → Nat} {T : Out} {N n : Nat} {g hs bs : List Int} {fs : List (List Int × List Int)} {x x' whole : Value} (h : FeedAt A w0 own i j w p most T N own' W hs bs fs x whole) (hn : n ≤ bs.length)
    (m : MidAt A w0 own i j w p most own'' W' (hs ++ bs.take n) g (bs.drop n) fs x' whole) (hl : Live (ckH most) szN (hs ++ bs.take n)) (hg : 12 ≤ (hs ++ bs.take n).length → g = (hs ++ bs.take n).take 12) : FeedAt A w0 own i j w p most T N own'' W' (hs ++ bs.take n) (bs.drop n) fs x' whole := by
  refine ⟨m.G, m.ext, m.K, ⟨g, m.D, hg⟩, hl, m.F, m.R, m.fr, m.B, h.b.drop n, ?_, ?_⟩
  · rw [round_same]; exact h.T
  · have := h.len
    rw [round_len hs bs hn]
    simp
    omega
/-- one round that gives a frame -/
theorem FeedAt.give {W W' : World} {own' own'' : Nat → Nat} {T : Out} {N n : Nat} {g hs bs : List Int} {fs : List (List Int × List Int)} {x x' whole whole' : Value} (h : FeedAt A w0 own i j w p most T N own' W hs bs fs x whole) (hn : n ≤ bs.length)
    (m : MidAt A w0 own i j w p most own'' W' [] g (bs.drop n) (fs ++ [((hs ++ bs.take n).take 12, (hs ++ bs.take n).drop 12)]) x' whole') (h12 : 12 ≤ (hs ++ bs.take n).length) (hc : ckH most ((hs ++ bs.take n).take 12) = true) (hlen : (hs ++ bs.take n).length = 12 + szN ((hs ++ bs.take n).take 12)) :
    FeedAt A w0 own i j w p most T N own'' W' [] (bs.drop n) (fs ++ [((hs ++ bs.take n).take 12, (hs ++ bs.take n).drop 12)]) x' whole' := by
  refine ⟨m.G, m.ext, m.K, ⟨g, m.D, fun h => by simp at h⟩, Live.nil, m.F, m.R, m.fr, m.B, h.b.drop n, ?_, ?_⟩
  · have := h.T
    rw [prs, round_frame (n := n) (hs ++ bs.take n) (round_same hs bs n) h12 hc hlen] at this
    rw [this]
    simp
  · have := h.len
    have e := round_len hs bs hn
    simp only [List.length_append, List.length_singleton, List.length_nil, List.length_drop] at *
    omega
end
end Go.Proofs.YtjhjhmhhnifgmaaDoor
