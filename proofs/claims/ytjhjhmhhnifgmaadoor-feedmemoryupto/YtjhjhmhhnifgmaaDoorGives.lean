/-
  layer 5's laws: what 'gives' needs.
-/
import Derived.Test.YtjhjhmhhnifgmaaDoorFeedY
namespace Go.Proofs.YtjhjhmhhnifgmaaDoor
open Go.RowKit

section
variable {A : Nat → Addr} {w0 : World} {own own' : Nat → Nat} {i j : Nat} {w w' : World} {p : Nat} {most : Int} {hs : List Int} {dead : Option (List Int)}
theorem Holds.at64 {w : World} {a : Option Addr} {len cap : Nat} {ns : List Int} (h : Holds .i64 w (.slice a len cap) ns) (hpos : 0 < len) :
    ∃ b o, a = some ⟨b, o, none⟩ ∧ ∀ i, i < len → w.cell? ⟨b, o + i, none⟩ = some (.int .i64 (ns.getD i 0)) := by
  obtain ⟨a', len', cap', e, hl, hc⟩ := h
  cases e
  obtain ⟨x, rfl, h0⟩ := hc 0 hpos
  have hall : ∀ i, i < ns.length → w.cell? (x.add i) = some (.int .i64 (ns.getD i 0)) := fun i hi => by
    obtain ⟨y, hy, hcell⟩ := hc i (by omega)
    cases hy
    exact hcell
  obtain ⟨b, o, rfl, hc'⟩ := ints_at hall (by omega)
  exact ⟨b, o, rfl, fun i hi => by simpa using hc' i (by omega)⟩
/-- []byte{} with a part of an argument behind it -/
theorem copy_end {W w2 : World} {q : Option Addr} {l c : Nat} {seg : List Int} (o : w2.ownsRow 0 5 1 (.slice q l c) (([] : List Int) ++ seg).length (bv (([] : List Int) ++ seg)))
    (k : Keeps (fun b => (Value.slice (some ⟨W.heap.size, 0, none⟩) 0 0).ownBlock = some b) (W.alloc (.cells #[] 5)) w2) (b : ∀ b, (Value.slice q l c).ownBlock = some b → (Value.slice (some ⟨W.heap.size, 0, none⟩) 0 0).ownBlock = some b ∨ (W.alloc (.cells #[] 5)).heap.size ≤ b) :
    Keeps Nowhere W w2 ∧ RdS (fun k => k < W.heap.size ∧ own k = i) w2 (.slice q l c) seg := by
  have kk : Keeps Nowhere W w2 := ((Keeps.refl _ _).alloc _).next k (fun x e hx => by simp [Value.ownBlock] at e; omega)
  refine ⟨kk, ?_, ?_⟩
  · have o' : w2.ownsRow 0 5 1 (.slice q l c) (bv seg).length (bv seg) := by rw [bv_length]; simpa using o
    obtain ⟨⟨a, c', e, hl, hc⟩, _⟩ := owns_reads o'
    refine ⟨a, c', e, hl, fun j u hj => ?_⟩
    obtain ⟨x, hx, _, hcell⟩ := hc j u hj
    refine ⟨x, hx, fun hlt => ?_, hcell⟩
    injection e with e1 _ _
    have hb : (Value.slice q l c).ownBlock = some x.block := by rw [e1, hx]; rfl
    rcases b x.block hb with e' | e'
    · simp [Value.ownBlock] at e'; omega
    · simp at e'; omega
  · have o' : OwnB 0 w2 (.slice q l c) seg := by simpa [OwnB] using o
    exact o'.rd.2
theorem FramesO.ext {fv : Value} {fs : List (List Int × List Int)} (h : FramesO own j w fv fs) (he : ∀ k, k < w.heap.size → own' k = own k) : FramesO own' j w fv fs := by
  obtain ⟨xs, h1, h2, h3, h4⟩ := h
  exact ⟨xs, h1, h2, fun k hk => (he k (owns_lt h2 k hk)).trans (h3 k hk), fun x hx => ⟨(h4 x hx).1, fun k hk => (he k (owns_lt (h4 x hx).1 k hk)).trans ((h4 x hx).2 k hk)⟩⟩
theorem ErrS.ext {ev : Value} (E : ErrS A own j w most ev dead) (he : ∀ k, k < w.heap.size → own' k = own k) : ErrS A own' j w most ev dead := by
  cases dead with
  | none => exact E
  | some h => obtain ⟨vb, e, v⟩ := E; exact ⟨vb, e, v.ext he⟩
/-- frames behind frames -/
theorem FramesO.join {fv v' : Value} {xs ys : List FX} (h2 : w.ownsRow 0 46 6 fv xs.length (fcells xs)) (h3 : ∀ k, fv.ownBlock = some k → own k = j) (h4 : ∀ x ∈ xs, DataO own j w x.2 x.1.2) (g4 : ∀ x ∈ ys, DataO own j w x.2 x.1.2)
    (o : w'.ownsRow 0 46 6 v' (xs.length + ys.length) (fcells xs ++ fcells ys)) (k2 : Keeps (fun b => fv.ownBlock = some b) w w') (b2 : ∀ b, v'.ownBlock = some b → fv.ownBlock = some b ∨ w.heap.size ≤ b) :
    FramesO (give own w.heap.size j) j w' v' (xs.map (·.1) ++ ys.map (·.1)) := by
  have hdat : ∀ v ns, DataO own j w v ns → DataO (give own w.heap.size j) j w' v ns := fun v ns hx =>
    ⟨owns_later hx.1 k2 (fun b hb e => owns_owns hx.1 h2 (by decide) b hb e), fun k hk => (give_old (owns_lt hx.1 k hk)).trans (hx.2 k hk)⟩
  refine ⟨xs ++ ys, by simp, ?_, fun k hk => ?_, fun x hx => ?_⟩
  · rw [fcells_append, List.length_append]
    exact o
  · rcases b2 k hk with e | e
    · exact (give_old (owns_lt h2 k e)).trans (h3 k e)
    · exact give_new e
  · rcases List.mem_append.1 hx with hx | hx
    · exact hdat _ _ (h4 x hx)
    · exact hdat _ _ (g4 x hx)
theorem fcells_one' (xs : List FX) (h : ∀ x ∈ xs, x.2.oneCell' = true) : ∀ u ∈ fcells xs, u.oneCell' = true := by
  intro u hu
  simp only [fcells, List.mem_flatMap] at hu
  obtain ⟨x, hx, hu⟩ := hu
  exact frm_one x.1.1 x.2 (h x hx) u hu
theorem DataO.one {v : Value} {ns : List Int} (h : DataO own j w v ns) : v.oneCell' = true := by
  obtain ⟨q, c, rfl⟩ := owns_val h.1
  rfl
/-- what a decoder that was fed the bytes ns has told, and what has been kept of it -/
structure Gave (A : Nat → Addr) (own : Nat → Nat) (i j : Nat) (p : Nat) (most : Int) (o : Out) (fv ev : Value) (w : World) : Prop where
  D : DecS A own i j w p most o.rest o.dead
  F : FramesO own j w fv o.fs
  E : ErrS A own j w most ev o.dead
theorem Gave.quiet {o : Out} {fv ev : Value} (h : Gave A own i j p most o fv ev w) (hk : Keeps Nowhere w w') : Gave A own i j p most o fv ev w' := ⟨h.D.quiet hk, h.F.quiet hk, h.E.quiet hk⟩
/-- two steps of bytes -/
theorem prs_step (most : Int) (ns x : List Int) : prs most (ns ++ x) = ⟨(prs most ns).fs ++ (feedO most (prs most ns).rest (prs most ns).dead x).fs, (feedO most (prs most ns).rest (prs most ns).dead x).rest, (feedO most (prs most ns).rest (prs most ns).dead x).dead⟩ := by
  cases hd : (prs most ns).dead with
  | none =>
    have := parse_app (ck := ckH most) (sz := szN) ns x hd
    exact this
  | some h =>
    have e := parse_app_dead (ck := ckH most) (sz := szN) ns x h hd
    have r := (parse_died (ck := ckH most) (sz := szN) ns h hd).1
    show parse (ckH most) szN (ns ++ x) = _
    rw [e]
    simp only [feedO, List.append_nil]
    show prs most ns = _
    have : prs most ns = ⟨(prs most ns).fs, (prs most ns).rest, (prs most ns).dead⟩ := rfl
    rw [this, hd]
    simp only [Out.mk.injEq, true_and, and_true]
    exact r
theorem prs_rest_len (most : Int) (ns : List Int) : (prs most ns).rest.length ≤ ns.length := by
  rcases (parse_spec (ck := ckH most) (sz := szN) ns).2.2 with ⟨_, _, b⟩ | ⟨h', t, _, r, _, _, b⟩
  · have := congrArg List.length b
    rw [List.length_append] at this
    show (parse (ckH most) szN ns).rest.length ≤ _
    omega
  · show (parse (ckH most) szN ns).rest.length ≤ _
    rw [r]; simp
end
end Go.Proofs.YtjhjhmhhnifgmaaDoor
