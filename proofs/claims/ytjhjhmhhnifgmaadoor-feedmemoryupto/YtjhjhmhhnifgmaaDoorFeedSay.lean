/-
  culvertref05.Say: what the document says of the bytes that were fed.
-/
import Derived.Test.YtjhjhmhhnifgmaaDoorFeedV
import Derived.Test.YtjhjhmhhnifgmaaDoorSameFr
import Derived.Deep.Cut
import Derived.Deep.MidRow
import Derived.Deep.RegionHeldLaw
import Derived.Deep.DeepCutAuto
namespace Go.Proofs.YtjhjhmhhnifgmaaDoor
open Go.RowKit

section
variable {A : Nat → Addr} {w w' W : World} {most : Int} {q : Option Addr} {L c : Nat} {F : List Int} {fv : Value} {xs : List FX}
/-- Say's world: d in its box, the result's block, t in its box, the frames so far -/
structure Sy (w : World) (most : Int) (q : Option Addr) (L c : Nat) (F : List Int) (fv : Value) (xs : List FX) (W : World) : Prop where
  bel : Below w.heap.size w W
  rd : Rd w (.slice q L c) F
  d : Cells W w.heap.size 31 [.int .i64 most, .slice q L c]
  res : Cells W (w.heap.size + 1) 57 [.slice none 0 0, .int .i64 0, .int .i64 0, .int .u32 0]
  t : Cells W (w.heap.size + 2) 57 [fv, .int .i64 0, .int .i64 0, .int .u32 0]
  row : W.ownsRow w.heap.size 46 6 fv xs.length (fcells xs)
  data : ∀ x ∈ xs, OwnB w.heap.size W x.2 x.1.2
theorem Sy.later (h : Sy w most q L c F fv xs W) (hb : Below W.heap.size W w') : Sy w most q L c F fv xs w' := by
  have k : Keeps Nowhere W w' := Keeps.ofBelow hb
  exact ⟨h.bel.trans (hb.mono h.bel.size), h.rd, h.d.later k (fun x => x), h.res.later k (fun x => x), h.t.later k (fun x => x), owns_later h.row k (fun _ _ x => x), fun x hx => (h.data x hx).later hb⟩
theorem Sy.frames (h : Sy w most q L c F fv xs W) : FramesR W fv (xs.map (·.1)) := ⟨xs, rfl, owns_readsK h.row, fun x hx => (h.data x hx).rd⟩
theorem Sy.cells (h : Sy w most q L c F fv xs W) : W.cell? ⟨w.heap.size, 0, none⟩ = some (.int .i64 most) ∧ W.cell? ⟨w.heap.size, 1, none⟩ = some (.slice q L c) ∧
    W.cell? ⟨w.heap.size + 2, 0, none⟩ = some fv ∧ W.cell? ⟨w.heap.size + 2, 1, none⟩ = some (.int .i64 0) ∧ W.cell? ⟨w.heap.size + 2, 2, none⟩ = some (.int .i64 0) ∧ W.cell? ⟨w.heap.size + 2, 3, none⟩ = some (.int .u32 0) := by
  refine ⟨?_, ?_, ?_, ?_, ?_, ?_⟩
  · rw [h.d.cell]; rfl
  · rw [h.d.cell]; rfl
  · rw [h.t.cell]; rfl
  · rw [h.t.cell]; rfl
  · rw [h.t.cell]; rfl
  · rw [h.t.cell]; rfl
theorem cells_ne {p p' : Nat} {e e' : TypeId} {ys zs : List Value} (h : Cells W p e ys) (h' : Cells W p' e' zs) (hne : e ≠ e') : p ≠ p' := by
  intro he
  subst he
  unfold Cells at h h'
  rw [h] at h'
  injection h' with h'
  injection h' with _ h'
  exact hne h'
theorem there4 {p : Nat} {e : TypeId} {c0 c1 c2 c3 : Value} (h : Cells W p e [c0, c1, c2, c3]) : W.there p 0 4 := by
  intro j hj
  rw [Nat.zero_add]
  refine ⟨?_, h.frozen j⟩
  rw [h.cell, List.getElem?_eq_getElem (by show j < 4; exact hj)]
  rfl
theorem toldInfo (x : Value) (a b : Int) (s : Int) : (Tryd.prog.info? 57).map (·.size) = some (#[x, .int .i64 a, .int .i64 b, .int .u32 s] : Array Value).size := by
  have : (Tryd.prog.info? 57).map (·.size) = some 4 := by kernel_rfl
  rw [this]; rfl
theorem toldOne (fq : Option Addr) (fl fc : Nat) (a b : Int) (s : Int) : (#[.slice fq fl fc, .int .i64 a, .int .i64 b, .int .u32 s] : Array Value).all (·.oneCell') = true := by simp [Value.oneCell']
/-- the result's block written -/
theorem res_stored {p : Nat} {c0 c1 c2 c3 : Value} (h : Cells W p 57 [c0, c1, c2, c3]) (x : Value) (a b : Int) (s : Int) :
    Cells (W.setCells p 0 (#[x, .int .i64 a, .int .i64 b, .int .u32 s] : Array Value).toList) p 57 [x, .int .i64 a, .int .i64 b, .int .u32 s] ∧ Keeps (fun k => k = p) W (W.setCells p 0 (#[x, .int .i64 a, .int .i64 b, .int .u32 s] : Array Value).toList) :=
  ⟨(((h.setCell 0 x).setCell 1 (.int .i64 a)).setCell 2 (.int .i64 b)).setCell 3 (.int .u32 s),
   ((((Keeps.refl (fun k => k = p) W).setCell ⟨p, 0, none⟩ x (fun _ => rfl)).setCell ⟨p, 1, none⟩ (.int .i64 a) (fun _ => rfl)).setCell ⟨p, 2, none⟩ (.int .i64 b) (fun _ => rfl)).setCell ⟨p, 3, none⟩ (.int .u32 s) (fun _ => rfl)⟩
/-- frames that can be read, all of them in blocks from base on -/
def FramesN (base : Nat) (w : World) (v : Value) (fs : List (List Int × List Int)) : Prop :=
  ∃ xs : List FX, xs.map (·.1) = fs ∧ ReadsK 6 w v xs.length (fcells xs) ∧ (∀ g o l c, v = .slice (some ⟨g, o, none⟩) l c → base ≤ g) ∧ ∀ x ∈ xs, Rd w x.2 x.1.2 ∧ ∀ g o l c, x.2 = .slice (some ⟨g, o, none⟩) l c → base ≤ g
theorem FramesN.r {base : Nat} {v : Value} {fs : List (List Int × List Int)} (h : FramesN base w v fs) : FramesR w v fs := by
  obtain ⟨xs, e, h1, _, h3⟩ := h
  exact ⟨xs, e, h1, fun x hx => (h3 x hx).1⟩
theorem owns_at {base k n : Nat} {e : TypeId} {v : Value} {ys : List Value} (h : w.ownsRow base e k v n ys) : ∀ g o l c, v = .slice (some ⟨g, o, none⟩) l c → base ≤ g := by
  intro g o l c e'
  rcases h.2 with ⟨e2, _⟩ | ⟨g', cap, cur, e2, hb, _⟩
  · rw [e2] at e'; cases e'
  · rw [e2] at e'
    injection e' with e'
    injection e' with e'
    injection e' with e'
    omega
/-- behind the last stores -/
theorem Sy.done {w5 w6 : World} {c0 c1 c2 c3 : Value} (h : Sy w most q L c F fv xs W) (k5 : Keeps (fun k => k = w.heap.size + 2) W w5) (r5 : Cells w5 (w.heap.size + 1) 57 [c0, c1, c2, c3]) (k6 : Keeps (fun k => k = w.heap.size + 1) w5 w6) :
    FramesN w.heap.size w6 fv (xs.map (·.1)) ∧ Below w.heap.size w w6 := by
  have row5 := owns_later h.row k5 (fun b hb e => owns_ne h.row h.t (by decide) (by rw [hb, e]))
  have row6 := owns_later row5 k6 (fun b hb e => owns_ne row5 r5 (by decide) (by rw [hb, e]))
  refine ⟨⟨xs, rfl, owns_readsK row6, owns_at row6, fun x hx => ?_⟩, ?_⟩
  · have d5 : OwnB w.heap.size w5 x.2 x.1.2 := owns_later (h.data x hx) k5 (fun b hb e => owns_ne (h.data x hx) h.t (by decide) (by rw [hb, e]))
    have d6 : OwnB w.heap.size w6 x.2 x.1.2 := owns_later d5 k6 (fun b hb e => owns_ne d5 r5 (by decide) (by rw [hb, e]))
    exact ⟨d6.rd, owns_at d6⟩
  · exact below_next (below_next h.bel k5 h.bel.size (fun b e _ => by omega)) k6 (Nat.le_trans h.bel.size k5.size) (fun b e _ => by omega)
/-- append onto a row of things of k cells, as a step of a region -/
theorem step_appendR {P : Program} {W : World} {ops : Array Oper} {o : Oper} {a : Act} {K : Act → World → Prop} {Q : Exit → Act → World → Prop} {E : Prop} (tmp : Tmp) (hdst : o.dst = some tmp) (hgd : o.guard = none) (s x : Operand) (t : TypeId)
    (ho : o.op = .call { callee := .builtin .append, args := #[s, x], argTypes := #[t, t] }) (e : TypeId) (z : Value) (k bytes : Nat) (ht : P.underlying t = some (.slice e)) (hinfo : (P.info? e).map (fun i => (i.zero, i.size, i.bytes)) = some (some z, k, bytes))
    (hzs : z.cells.size = k) (h0 : 0 < k) (w : World) (hk : Keeps Nowhere w W) (base : Nat) (v : Value) (n : Nat) (xs : List Value) (hown : w.ownsRow base e k v n xs) (sv : Value) (m : Nat) (ys : List Value) (hr : ReadsK k W sv m ys) (h1 : ∀ u ∈ ys, u.oneCell' = true)
    (hb : (n + m) * bytes ≤ 140737488355328) (h63 : n + m ≤ maxLen) (hbase : base ≤ w.heap.size) (hs : a.eval s = v) (hx : a.eval x = sv)
    (h : ∀ q' l' c' w', Aside (w'.ownsRow base e k (.slice q' l' c') (n + m) (xs ++ ys)) → Aside (Keeps (fun b => v.ownBlock = some b) W w') → K (a.put (some tmp) (.slice q' l' c')) w') : if Region.wanted o (yielded ops a.tmps) = true then Oper.wp P o a W K Q else E := by
  obtain ⟨i, hi, hz0, hz1, hz2⟩ := info_parts hinfo
  have hown' := owns_later hown hk (fun _ _ x => x)
  obtain ⟨v', w', run, o', g', _⟩ := run_appendR (P := P) W base t e i z k bytes ht hi hz0 hz1 hz2 hzs h0 v n xs hown' sv m ys hr h1 hb h63 (Nat.le_trans hbase hk.size)
  obtain ⟨q', l', c', rfl⟩ := owns_shapeK o'
  exact step_appendK tmp hdst hgd s x t ho _ sv _ w' hs hx run (h q' l' c' w' ⟨o'⟩ ⟨grown_keeps g'⟩)
theorem owns_rebaseS {B : Nat} {v' : Value} {ms : List Int} (o : w'.ownsRow 0 5 1 v' ms.length (bv ms)) (hb : ∀ b, v'.ownBlock = some b → B ≤ b) : OwnB B w' v' ms := by
  refine ⟨o.1, ?_⟩
  rcases o.2 with h0 | ⟨g, cap, cur, rfl, _, rest⟩
  · exact .inl h0
  · exact .inr ⟨g, cap, cur, rfl, hb g rfl, rest⟩
/-- behind the append of the payload's copy -/
theorem Sy.copied {q8 : Option Addr} {l8 c8 : Nat} {D : List Int} {W1 w8 : World} (h : Sy w most q L c F fv xs W) (k1 : Keeps Nowhere W W1) (o8 : w8.ownsRow 0 5 1 (.slice q8 l8 c8) (([] : List Int) ++ D).length (bv (([] : List Int) ++ D)))
    (k8 : Keeps (fun b => (Value.slice (some ⟨W.heap.size, 0, none⟩) 0 0).ownBlock = some b) W1 w8) (b8 : ∀ b, (Value.slice q8 l8 c8).ownBlock = some b → (Value.slice (some ⟨W.heap.size, 0, none⟩) 0 0).ownBlock = some b ∨ W1.heap.size ≤ b) :
    Keeps Nowhere W w8 ∧ Sy w most q L c F fv xs w8 ∧ OwnB w.heap.size w8 (.slice q8 l8 c8) D := by
  have kk : Keeps Nowhere W w8 := k1.next k8 (fun k hk hlt => by
    simp only [Value.ownBlock, Option.some.injEq] at hk
    omega)
  refine ⟨kk, h.later kk.bel, owns_rebaseS (by simpa using o8) (fun b hb => ?_)⟩
  rcases b8 b hb with e | e
  · simp only [Value.ownBlock, Option.some.injEq] at e
    have := h.bel.size
    omega
  · exact Nat.le_trans (Nat.le_trans h.bel.size k1.size) e
/-- one frame more -/
theorem Sy.next {W1 w9 : World} {q9 : Option Addr} {l9 c9 : Nat} {x : FX} (h : Sy w most q L c F fv xs W) (k1 : Keeps Nowhere W W1) (o9 : w9.ownsRow w.heap.size 46 6 (.slice q9 l9 c9) (xs.length + 1) (fcells xs ++ frmL x.1.1 x.2)) (k9 : Keeps (fun b => fv.ownBlock = some b) W1 w9) (hd : OwnB w.heap.size W x.2 x.1.2) :
    Cells w9 (w.heap.size + 2) 57 [fv, .int .i64 0, .int .i64 0, .int .u32 0] ∧ Sy w most q L c F (.slice q9 l9 c9) (xs ++ [x]) (w9.setCell ⟨w.heap.size + 2, 0, none⟩ (.slice q9 l9 c9)) := by
  have h1 := h.later k1.bel
  have nt : fv.ownBlock ≠ some (w.heap.size + 2) := owns_ne h1.row h1.t (by decide)
  have nr : fv.ownBlock ≠ some (w.heap.size + 1) := owns_ne h1.row h1.res (by decide)
  have nd : fv.ownBlock ≠ some w.heap.size := owns_ne h1.row h1.d (by decide)
  have t9 := h1.t.later k9 nt
  have r9 := h1.res.later k9 nr
  have d9 := h1.d.later k9 nd
  have kS : Keeps (fun k => k = w.heap.size + 2) w9 (w9.setCell ⟨w.heap.size + 2, 0, none⟩ (.slice q9 l9 c9)) := (Keeps.refl _ _).setCell _ _ (fun _ => rfl)
  have dat : ∀ y : FX, OwnB w.heap.size W1 y.2 y.1.2 → OwnB w.heap.size (w9.setCell ⟨w.heap.size + 2, 0, none⟩ (.slice q9 l9 c9)) y.2 y.1.2 := fun y hy => by
    have y9 : OwnB w.heap.size w9 y.2 y.1.2 := owns_later hy k9 (fun b hb e => owns_owns (owns_any hy) (owns_any h1.row) (by decide) b hb e)
    exact owns_later y9 kS (fun b hb e => owns_ne y9 t9 (by decide) (by rw [hb, e]))
  refine ⟨t9, ⟨below_next (below_next h1.bel k9 h1.bel.size (fun b hb _ => owns_base h1.row b hb)) kS (Nat.le_trans h1.bel.size k9.size) (fun b e _ => by omega), h.rd, d9.later kS (by omega), r9.later kS (by omega), t9.setCell 0 _, ?_, ?_⟩⟩
  · rw [List.length_append, fcells_append, fcells_one]
    exact owns_later o9 kS (fun b hb e => owns_ne o9 t9 (by decide) (by rw [hb, e]))
  · intro y hy
    rcases List.mem_append.1 hy with hy | hy
    · exact dat y (h1.data y hy)
    · simp only [List.mem_singleton] at hy
      subst hy
      exact dat y (hd.later k1.bel)
def restS (rest : List Int) (dead : Option (List Int)) : Nat := match dead with | none => rest.length | some _ => 0
/-- what is left of the bytes -/
structure Sl (most : Int) (F : List Int) (xs : List FX) (t : Nat) : Prop where
  at_ : t = (flat (xs.map (·.1))).length
  eq : F = flat (xs.map (·.1)) ++ F.drop t
  ok : ∀ x ∈ xs.map (·.1), FrOk (ckH most) szN x
theorem Sl.le {t : Nat} (h : Sl most F xs t) : t ≤ F.length := by
  have := congrArg List.length h.eq
  rw [List.length_append, ← h.at_] at this
  omega
theorem Sl.prs {t : Nat} (h : Sl most F xs t) : prs most F = ⟨xs.map (·.1) ++ (prs most (F.drop t)).fs, (prs most (F.drop t)).rest, (prs most (F.drop t)).dead⟩ := by
  have := parse_flat (ck := ckH most) (sz := szN) (xs.map (·.1)) (F.drop t) h.ok
  rw [← h.eq] at this
  exact this
theorem Sl.next {t N : Nat} {h D : List Int} {dv : Value} (S : Sl most F xs t) (hh : (F.drop t).take 12 = h) (hD : (F.drop (t + 12)).take N = D) (hl : h.length = 12) (hDl : D.length = N) (hc : ckH most h = true) (hs : szN h = N) : Sl most F (xs ++ [((h, D), dv)]) (t + 12 + N) := by
  have e1 : flat ((xs ++ [((h, D), dv)]).map (·.1)) = flat (xs.map (·.1)) ++ (h ++ D) := by
    rw [List.map_append, flat_append]
    simp [flat]
  refine ⟨?_, ?_, ?_⟩
  · rw [e1, List.length_append, List.length_append, ← S.at_, hl, hDl]
    omega
  · rw [e1]
    have e2 : F.drop t = h ++ F.drop (t + 12) := by
      have := List.take_append_drop 12 (F.drop t)
      rw [hh, List.drop_drop] at this
      exact this.symm
    have e3 : F.drop (t + 12) = D ++ F.drop (t + 12 + N) := by
      have := List.take_append_drop N (F.drop (t + 12))
      rw [hD, List.drop_drop] at this
      exact this.symm
    have e4 := S.eq
    rw [e2, e3] at e4
    rw [List.append_assoc, List.append_assoc]
    exact e4
  · intro y hy
    rw [List.map_append] at hy
    rcases List.mem_append.1 hy with hy | hy
    · exact S.ok y hy
    · simp only [List.map_cons, List.map_nil, List.mem_singleton] at hy
      subst hy
      exact ⟨hl, hc, by rw [hs]; exact hDl⟩
end
set_option maxRecDepth 20000 in
set_option maxHeartbeats 40000000 in
theorem say_any {w : World} {most : Int} (q : Option Addr) (L c : Nat) (F : List Int) (R : Rd w (.slice q L c) F) (hb : AreBytes F) (hL : F.length ≤ 16777216) :
    Calls Tryd.prog 16 #[.agg #[.int .i64 most, .slice q L c]] w fun e w' => ∃ fq fl fc, e = .returned (.agg #[.slice fq fl fc, .int .i64 (restS (prs most F).rest (prs most F).dead), .int .i64 (codeS most (prs most F).dead), .int .u32 (strmS (prs most F).dead)]) ∧
      Aside (FramesN w.heap.size w' (.slice fq fl fc) (prs most F).fs) ∧ Aside (Below w.heap.size w w') := by
  have hLe : Aside (L = F.length ∧ L ≤ c) := by
    obtain ⟨x, y, e⟩ := R.shape
    injection e with _ e _
    have := R.1.len
    rw [bv_length] at this
    exact ⟨e, by omega⟩
  have hL63 : (L : Int) ≤ 16777216 := by have := hLe.it.1; omega
  obtain ⟨w0, hw0⟩ : ∃ w0, w0 = ((w.alloc (.cells #[.int .i64 most, .slice q L c] 31)).alloc (.cells #[.slice none 0 0, .int .i64 0, .int .i64 0, .int .u32 0] 57)).alloc (.cells #[.slice none 0 0, .int .i64 0, .int .i64 0, .int .u32 0] 57) := ⟨_, rfl⟩
  have P0 : Aside (Sy w most q L c F (.slice none 0 0) [] w0) := by
    have z1 : (w.alloc (.cells #[.int .i64 most, .slice q L c] 31)).heap.size = w.heap.size + 1 := by simp
    have z2 : ((w.alloc (.cells #[.int .i64 most, .slice q L c] 31)).alloc (.cells #[.slice none 0 0, .int .i64 0, .int .i64 0, .int .u32 0] 57)).heap.size = w.heap.size + 2 := by simp
    have k : ∀ (W : World) (o : Obj), Keeps Nowhere W (W.alloc o) := fun W o => (Keeps.refl _ _).alloc o
    refine ⟨⟨?_, R, ?_, ?_, ?_, World.ownsRow_nil _ _ _ _, fun x hx => by cases hx⟩⟩
    · rw [hw0]; exact (((k _ _).trans (k _ _)).trans (k _ _)).bel
    · rw [hw0]; exact (Cells.new w 31 [.int .i64 most, .slice q L c]).later ((k _ _).trans (k _ _)) (fun x => x)
    · rw [hw0, ← z1]; exact (Cells.new _ 57 [.slice none 0 0, .int .i64 0, .int .i64 0, .int .u32 0]).later (k _ _) (fun x => x)
    · rw [hw0, ← z2]; exact Cells.new _ 57 [.slice none 0 0, .int .i64 0, .int .i64 0, .int .u32 0]
  have HB := Aside.mk hb
  clear hb hL R
  go_enter Tryd.func16, Tryd.ntmps16
  go_upto_region 2 with fail
  rw [← hw0]
  clear hw0
  go_upto_region 3 with fail
  go_loopw [4] (fun av wr => ∃ (t : Nat) (xs : List FX) (fq : Option Addr) (fl fc : Nat), av = .int .i64 t ∧ Aside (Sl most F xs t) ∧ Aside (Sy w most q L c F (.slice fq fl fc) xs wr)) (fun av _ => L - (intOf av).toNat)
  case atStart => exact ⟨0, [], none, 0, 0, rfl, ⟨⟨rfl, by simp [flat], fun x hx => by cases hx⟩⟩, P0⟩
  case round =>
    obtain ⟨t, xs, fq, fl, fc, rfl, SL, P1⟩ := hrel
    clear P0
    obtain ⟨m, hm⟩ : ∃ m, L = t + m := ⟨L - t, by have := SL.it.le; have := hLe.it.1; omega⟩
    have HM := Aside.mk hm
    have hTl : Aside ((F.drop t).length = m) := ⟨by rw [List.length_drop, ← hLe.it.1]; omega⟩
    have s1 : (L : Int) - t = m := by omega
    have s0 : (0 : Int) ≤ t := by omega
    have s2 : (t : Int) ≤ 16777216 := by omega
    have s3 : (m : Int) ≤ 16777216 := by omega
    obtain ⟨d0, d1, t0, t1, t2, t3⟩ := P1.it.cells
    have f1 : wr.frozen? ⟨w.heap.size + 2, 1, none⟩ = false := P1.it.t.frozen 1
    have f2 : wr.frozen? ⟨w.heap.size + 2, 2, none⟩ = false := P1.it.t.frozen 2
    have f3 : wr.frozen? ⟨w.heap.size + 2, 3, none⟩ = false := P1.it.t.frozen 3
    clear hm
    by_cases h12 : m < 12
    · have c12 : ¬ (12 : Int) ≤ m := by omega
      have PP := SL.it.prs
      rw [show prs most (F.drop t) = ⟨[], F.drop t, none⟩ from parse_short (by rw [hTl.it]; exact h12)] at PP
      have HPP := Aside.mk PP
      clear PP
      go_upto_region 17 with fail
      have T5 := P1.it.t.setCell 1 (.int .i64 m)
      have R5 := P1.it.res.setOther ⟨w.heap.size + 2, 1, none⟩ (.int .i64 m) (by show w.heap.size + 1 ≠ w.heap.size + 2; omega)
      have K5 : Keeps (fun k => k = w.heap.size + 2) wr (wr.setCell ⟨w.heap.size + 2, 1, none⟩ (.int .i64 m)) := (Keeps.refl _ _).setCell _ _ (fun _ => rfl)
      have T5 := Aside.mk T5
      have R5 := Aside.mk R5
      have K5 := Aside.mk K5
      generalize wr.setCell ⟨w.heap.size + 2, 1, none⟩ (.int .i64 m) = w5 at T5 R5 K5 ⊢
      clear d0 d1 t0 t1 t2 t3 f1 f2 f3
      have u0 : w5.cell? ⟨w.heap.size + 2, 0, none⟩ = some (.slice fq fl fc) := by rw [T5.it.cell]; rfl
      have u1 : w5.cell? ⟨w.heap.size + 2, 1, none⟩ = some (.int .i64 m) := by rw [T5.it.cell]; rfl
      have u2 : w5.cell? ⟨w.heap.size + 2, 2, none⟩ = some (.int .i64 0) := by rw [T5.it.cell]; rfl
      have u3 : w5.cell? ⟨w.heap.size + 2, 3, none⟩ = some (.int .u32 0) := by rw [T5.it.cell]; rfl
      have TH := Aside.mk (there4 R5.it)
      have TI := Aside.mk (toldInfo (.slice fq fl fc) m 0 0)
      have TO := Aside.mk (toldOne fq fl fc m 0 0)
      go_wp2_with (first | (refine wpList_store_mid rfl 57 _ _ rfl (w.heap.size + 1) 0 #[.slice fq fl fc, .int .i64 m, .int .i64 0, .int .u32 0] rfl rfl TH.it TI.it TO.it ?_; obtain ⟨C6, K6⟩ := res_stored R5.it (.slice fq fl fc) m 0 0; have K6 := Aside.mk K6; generalize w5.setCells (w.heap.size + 1) 0 (#[.slice fq fl fc, .int .i64 m, .int .i64 0, .int .u32 0] : Array Value).toList = w6 at C6 K6 ⊢; have r0 : w6.cell? ⟨w.heap.size + 1, 0, none⟩ = some (.slice fq fl fc) := (by rw [C6.cell]; rfl); have r1 : w6.cell? ⟨w.heap.size + 1, 1, none⟩ = some (.int .i64 m) := (by rw [C6.cell]; rfl); have r2 : w6.cell? ⟨w.heap.size + 1, 2, none⟩ = some (.int .i64 0) := (by rw [C6.cell]; rfl); have r3 : w6.cell? ⟨w.heap.size + 1, 3, none⟩ = some (.int .u32 0) := (by rw [C6.cell]; rfl)) | fail)
      have D6 := P1.it.done K5.it R5.it K6.it
      refine bodyPost_ret (v := .agg #[.slice fq fl fc, .int .i64 m, .int .i64 0, .int .u32 0]) (by simp [results, Tryd.results16, go_sem, r0, r1, r2, r3]) rfl ?_
      rw [HPP.it]
      refine ⟨fq, fl, fc, ?_, ⟨by simpa using D6.1⟩, ⟨D6.2⟩⟩
      simp [restS, codeS, strmS, hTl.it]
    · have c12 : (12 : Int) ≤ m := by omega
      have hq : ∃ sb so, q = some ⟨sb, so, none⟩ := by
        obtain ⟨sb, so, c', e, _⟩ := P1.it.rd.at (by have := hLe.it.1; have := HM.it; omega)
        injection e with e _ _
        exact ⟨sb, so, e⟩
      obtain ⟨sb, so, rfl⟩ := hq
      have hct : ¬ c = t := by have := hLe.it.2; have := HM.it; omega
      obtain ⟨h, hh⟩ : ∃ h, Aside ((F.drop t).take 12 = h) := ⟨_, ⟨rfl⟩⟩
      have hlen : Aside (h.length = 12) := ⟨by rw [← hh.it, List.length_take, hTl.it]; omega⟩
      have hbh : Aside (AreBytes h) := ⟨fun n hn => HB.it n (by rw [← hh.it] at hn; exact List.mem_of_mem_drop (List.mem_of_mem_take hn))⟩
      have RS : Rd wr (.slice (some ⟨sb, so + t, none⟩) 12 (c - t)) h := by
        have r0 : RdS Nowhere wr (.slice (some ⟨sb, so, none⟩) L c) F := P1.it.rd.later P1.it.bel
        have r1 := r0.seg (a := t) (n := 12) (by have := hLe.it.1; have := HM.it; omega)
        rw [if_neg hct, hh.it] at r1
        have e : (some (⟨sb, so, none⟩ : Addr)).map (·.add t) = some ⟨sb, so + t, none⟩ := by rw [Option.map_some, add_none]
        rw [e] at r1
        exact r1
      have DEC := Aside.mk (refDecode_any _ h wr RS hbh.it)
      rw [show dE h = 0 from if_neg (by rw [hlen.it]; decide)] at DEC
      unfold dHdr at DEC
      have CKE : Aside (chk (dV h) (dT h) (dF h) (dS h) (dL h) most = chkH most h) := ⟨rfl⟩
      have SZE : Aside (szN h = (szH (dT h) (dL h)).toNat) := ⟨rfl⟩
      have bT := dT_bounds hbh.it
      have bF := dF_bounds hbh.it
      have bS := dS_bounds hbh.it
      have bL := dL_bounds hbh.it
      have CHK := Aside.mk (fun W => refCheck_any (dV h) (dT h) (dF h) (dS h) (dL h) most W bT.1 bF.1 bL.1 bL.2)
      rw [CKE.it] at CHK
      have hS : Aside (dS h = dS h) := ⟨rfl⟩
      have s4 : (t : Int) + 12 ≤ c := by have := hLe.it.2; have := HM.it; omega
      clear RS CKE
      have XS : ∃ s3, Aside (dS h = s3) := ⟨_, ⟨rfl⟩⟩
      obtain ⟨s3, hS3⟩ := XS
      have XL : ∃ l3, Aside (dL h = l3) := ⟨_, ⟨rfl⟩⟩
      obtain ⟨l3, hL3⟩ := XL
      have XT : ∃ t3, Aside (dT h = t3) := ⟨_, ⟨rfl⟩⟩
      obtain ⟨t3', hT3⟩ := XT
      have XV : ∃ v3, Aside (dV h = v3) := ⟨_, ⟨rfl⟩⟩
      obtain ⟨v3, hV3⟩ := XV
      have XF : ∃ f3, Aside (dF h = f3) := ⟨_, ⟨rfl⟩⟩
      obtain ⟨f3', hF3⟩ := XF
      rw [hS3.it, hL3.it, hT3.it, hV3.it, hF3.it] at DEC
      simp only [hS3.it, hL3.it, hT3.it, hV3.it, hF3.it] at CHK
      rw [hS3.it] at bS
      rw [hL3.it] at bL
      rw [hT3.it] at bT
      rw [hL3.it, hT3.it] at SZE
      clear bF hS
      go_upto_region 5 with (first | (go_at_call 22; with_reducible refine DEC.it.mono ?_; rintro e w4 ⟨rfl, K4⟩; have K4 := Aside.mk K4) | fail)
      have P5 : Aside (Sy w most (some ⟨sb, so, none⟩) L c F (.slice fq fl fc) xs (w4.alloc (hbox v3 t3' f3' s3 l3))) := ⟨(P1.it.later K4.it).later (alloc_below _ _)⟩
      have X5 := Aside.mk (Cells.new w4 44 [.int .u8 v3, .int .u8 t3', .int .u16 f3', .int .u32 s3, .int .u32 l3])
      have e5 : w4.alloc (.cells [.int .u8 v3, .int .u8 t3', .int .u16 f3', .int .u32 s3, .int .u32 l3].toArray 44) = w4.alloc (hbox v3 t3' f3' s3 l3) := rfl
      rw [e5] at X5
      clear e5 d0 d1 t0 t1 t2 t3 f1 f2 f3 P1 K4 DEC
      generalize w4.alloc (hbox v3 t3' f3' s3 l3) = w5 at P5 X5 ⊢
      generalize w4.heap.size = p5 at X5 ⊢
      obtain ⟨d0, d1, t0, t1, t2, t3⟩ := P5.it.cells
      have x0 : w5.cell? ⟨p5, 0, none⟩ = some (.int .u8 v3) := by rw [X5.it.cell]; rfl
      have x1 : w5.cell? ⟨p5, 1, none⟩ = some (.int .u8 t3') := by rw [X5.it.cell]; rfl
      have x2 : w5.cell? ⟨p5, 2, none⟩ = some (.int .u16 f3') := by rw [X5.it.cell]; rfl
      have x3 : w5.cell? ⟨p5, 3, none⟩ = some (.int .u32 s3) := by rw [X5.it.cell]; rfl
      have x4 : w5.cell? ⟨p5, 4, none⟩ = some (.int .u32 l3) := by rw [X5.it.cell]; rfl
      go_upto_region 6 with (first | (go_at_call 26; with_reducible refine (CHK.it _).mono ?_; rintro e w6 ⟨rfl, K6⟩; have K6 := Aside.mk K6) | fail)
      have P6 : Aside (Sy w most (some ⟨sb, so, none⟩) L c F (.slice fq fl fc) xs w6) := ⟨P5.it.later K6.it⟩
      have X6 := Aside.mk (X5.it.later (Keeps.ofBelow (S := Nowhere) K6.it) (fun x => x))
      clear d0 d1 t0 t1 t2 t3 x0 x1 x2 x3 x4 P5 X5 K6 CHK
      have hp5 : p5 ≠ w.heap.size + 2 := cells_ne X6.it P6.it.t (by decide)
      obtain ⟨d0, d1, t0, t1, t2, t3⟩ := P6.it.cells
      have f1 : w6.frozen? ⟨w.heap.size + 2, 1, none⟩ = false := P6.it.t.frozen 1
      have x1 : w6.cell? ⟨p5, 1, none⟩ = some (.int .u8 t3') := by rw [X6.it.cell]; rfl
      have x4 : w6.cell? ⟨p5, 4, none⟩ = some (.int .u32 l3) := by rw [X6.it.cell]; rfl
      by_cases hck : chkH most h = 0
      · rw [hck]
        have hkf : Aside (ckH most h = true) := ⟨decide_eq_true hck⟩
        obtain ⟨r, hr⟩ : ∃ r, m = 12 + r := ⟨m - 12, by omega⟩
        have s5 : (m : Int) - 12 = r := by omega
        have HRr := Aside.mk hr
        have sz0 : 0 ≤ szH t3' l3 := by unfold szH; split <;> omega
        obtain ⟨N, hN⟩ : ∃ N : Nat, Aside (szH t3' l3 = (N : Int)) := ⟨(szH t3' l3).toNat, ⟨by omega⟩⟩
        have hszN : Aside (szN h = N) := ⟨by rw [SZE.it, hN.it]; simp⟩
        have hNl : Aside (N ≤ 4294967295) := ⟨by have := hN.it; unfold szH at this; split at this <;> omega⟩
        clear hr sz0 hck
        go_upto_if 41 with fail
        go_cut [8] from 10 to 74 (fun nv wx => nv = .int .i64 (N : Int) ∧ wx = w6)
        case first =>
          by_cases hT : t3' = 0
          · have eN : l3 = (N : Int) := by have := hN.it; unfold szH at this; rw [if_pos hT] at this; exact this
            subst hT
            go_wp2
            go_meet
            case rel => exact ⟨by rw [← eN], by first | rfl | trivial⟩
          · have hT1 : (t3' == 0) = false := by simpa using hT
            have eN : (N : Int) = 0 := by have := hN.it; unfold szH at this; rw [if_neg hT] at this; exact this.symm
            go_wp2
            go_meet
            case rel => exact ⟨by rw [eN], by first | rfl | trivial⟩
        case rest =>
          obtain ⟨rfl, hwc⟩ := hcut
          rw [hwc]
          clear hwc
          by_cases hbrk : r < N
          · have b1 : (r : Int) < N := by omega
            have PP := SL.it.prs
            rw [show prs most (F.drop t) = ⟨[], F.drop t, none⟩ from parse_part (ck := ckH most) (sz := szN) (by rw [hTl.it]; omega) (by rw [hh.it]; exact hkf.it) (by rw [hh.it, hszN.it, hTl.it, HRr.it]; omega)] at PP
            have HPP := Aside.mk PP
            clear PP
            go_upto_region 17 with fail
            have T5 := Aside.mk (P6.it.t.setCell 1 (.int .i64 m))
            have R5 := Aside.mk (P6.it.res.setOther ⟨w.heap.size + 2, 1, none⟩ (.int .i64 m) (by show w.heap.size + 1 ≠ w.heap.size + 2; omega))
            have K5 : Aside (Keeps (fun k => k = w.heap.size + 2) w6 (w6.setCell ⟨w.heap.size + 2, 1, none⟩ (.int .i64 m))) := ⟨(Keeps.refl _ _).setCell _ _ (fun _ => rfl)⟩
            generalize w6.setCell ⟨w.heap.size + 2, 1, none⟩ (.int .i64 m) = w5 at T5 R5 K5 ⊢
            clear d0 d1 t0 t1 t2 t3 f1 x1 x4
            have u0 : w5.cell? ⟨w.heap.size + 2, 0, none⟩ = some (.slice fq fl fc) := by rw [T5.it.cell]; rfl
            have u1 : w5.cell? ⟨w.heap.size + 2, 1, none⟩ = some (.int .i64 m) := by rw [T5.it.cell]; rfl
            have u2 : w5.cell? ⟨w.heap.size + 2, 2, none⟩ = some (.int .i64 0) := by rw [T5.it.cell]; rfl
            have u3 : w5.cell? ⟨w.heap.size + 2, 3, none⟩ = some (.int .u32 0) := by rw [T5.it.cell]; rfl
            have TH := Aside.mk (there4 R5.it)
            have TI := Aside.mk (toldInfo (.slice fq fl fc) m 0 0)
            have TO := Aside.mk (toldOne fq fl fc m 0 0)
            go_wp2_with (first | (refine wpList_store_mid rfl 57 _ _ rfl (w.heap.size + 1) 0 #[.slice fq fl fc, .int .i64 m, .int .i64 0, .int .u32 0] rfl rfl TH.it TI.it TO.it ?_; obtain ⟨C6, K6⟩ := res_stored R5.it (.slice fq fl fc) m 0 0; have K6 := Aside.mk K6; generalize w5.setCells (w.heap.size + 1) 0 (#[.slice fq fl fc, .int .i64 m, .int .i64 0, .int .u32 0] : Array Value).toList = w6 at C6 K6 ⊢; have r0 : w6.cell? ⟨w.heap.size + 1, 0, none⟩ = some (.slice fq fl fc) := (by rw [C6.cell]; rfl); have r1 : w6.cell? ⟨w.heap.size + 1, 1, none⟩ = some (.int .i64 m) := (by rw [C6.cell]; rfl); have r2 : w6.cell? ⟨w.heap.size + 1, 2, none⟩ = some (.int .i64 0) := (by rw [C6.cell]; rfl); have r3 : w6.cell? ⟨w.heap.size + 1, 3, none⟩ = some (.int .u32 0) := (by rw [C6.cell]; rfl)) | fail)
            have D6 := P6.it.done K5.it R5.it K6.it
            refine bodyPost_ret (v := .agg #[.slice fq fl fc, .int .i64 m, .int .i64 0, .int .u32 0]) (by simp [results, Tryd.results16, go_sem, r0, r1, r2, r3]) rfl ?_
            rw [HPP.it]
            refine ⟨fq, fl, fc, ?_, ⟨by simpa using D6.1⟩, ⟨D6.2⟩⟩
            simp [restS, codeS, strmS, hTl.it]
          · have b1 : ¬ (r : Int) < N := by omega
            go_upto_region 14 with fail
            have x0 : w6.cell? ⟨p5, 0, none⟩ = some (.int .u8 v3) := by rw [X6.it.cell]; rfl
            have x2 : w6.cell? ⟨p5, 2, none⟩ = some (.int .u16 f3') := by rw [X6.it.cell]; rfl
            have x3 : w6.cell? ⟨p5, 3, none⟩ = some (.int .u32 s3) := by rw [X6.it.cell]; rfl
            obtain ⟨D, hD⟩ : ∃ D, Aside (((F.drop (t + 12)).take N) = D) := ⟨_, ⟨rfl⟩⟩
            have hDl : Aside (D.length = N) := ⟨by rw [← hD.it, List.length_take, List.length_drop]; have := hLe.it.1; have := HM.it; have := HRr.it; omega⟩
            have OWE : Aside ((w6.alloc (.cells #[] 5)).drew.ownsRow 0 5 1 (.slice (some ⟨w6.heap.size, 0, none⟩) 0 0) ([] : List Int).length (bv [])) := ⟨owns_later (own_new (B := 0) w6 [] 0 rfl (Nat.zero_le _) (Nat.zero_le _)) ((Keeps.refl Nowhere _).drew) (fun _ _ x => x)⟩
            have KE : Aside (Keeps Nowhere w6 (w6.alloc (.cells #[] 5)).drew) := ⟨((Keeps.refl Nowhere w6).alloc (.cells #[] 5)).drew⟩
            have KA : Keeps Nowhere w6 (w6.alloc (.cells #[] 5)) := (Keeps.refl Nowhere w6).alloc _
            obtain ⟨_, a1, a2, _, _, _⟩ := (P6.it.later KA.bel).cells
            have XA := X6.it.later KA (fun x => x)
            have ax0 : (w6.alloc (.cells #[] 5)).cell? ⟨p5, 0, none⟩ = some (.int .u8 v3) := by rw [XA.cell]; rfl
            have ax1 : (w6.alloc (.cells #[] 5)).cell? ⟨p5, 1, none⟩ = some (.int .u8 t3') := by rw [XA.cell]; rfl
            have ax2 : (w6.alloc (.cells #[] 5)).cell? ⟨p5, 2, none⟩ = some (.int .u16 f3') := by rw [XA.cell]; rfl
            have ax3 : (w6.alloc (.cells #[] 5)).cell? ⟨p5, 3, none⟩ = some (.int .u32 s3) := by rw [XA.cell]; rfl
            have ax4 : (w6.alloc (.cells #[] 5)).cell? ⟨p5, 4, none⟩ = some (.int .u32 l3) := by rw [XA.cell]; rfl
            clear KA XA
            have bnd : Aside (([] : List Int).length + D.length ≤ 140737488355328) := ⟨by rw [hDl.it]; have := hNl.it; show 0 + N ≤ _; omega⟩
            obtain ⟨u, hu⟩ : ∃ u, Aside (u = t + 12) := ⟨_, ⟨rfl⟩⟩
            obtain ⟨z, hz⟩ : ∃ z, Aside (z = u + N) := ⟨_, ⟨rfl⟩⟩
            have hw1 : IntKind.i64.wrap ((t : Int) + 12) = u := by rw [IntKind.wrap_i64]; have := hu.it; omega
            have hw2 : IntKind.i64.wrap ((u : Int) + N) = z := by rw [IntKind.wrap_i64]; have := hu.it; have := hz.it; have := hNl.it; omega
            have s6 : (z : Int) ≤ c := by have := hu.it; have := hz.it; have := hLe.it.2; have := HM.it; have := HRr.it; omega
            have s7 : (u : Int) ≤ z := by have := hz.it; omega
            have s8 : (0 : Int) ≤ u := by omega
            have s9 : (0 : Int) ≤ z := by omega
            have hzu : z - u = N := by have := hz.it; omega
            have xl : Aside (xs.length ≤ 16777216) := ⟨by
              have h1 := flat_length (ck := ckH most) (sz := szN) (xs.map (·.1)) SL.it.ok
              have h2 := SL.it.at_
              have h3 := SL.it.le
              have h4 := hLe.it.1
              rw [List.length_map] at h1
              omega⟩
            have b8 := Aside.mk (show (xs.length + 1) * 40 ≤ 140737488355328 by have := xl.it; omega)
            have b9 := Aside.mk (show xs.length + 1 ≤ maxLen by have := xl.it; unfold maxLen; omega)
            go_cut [] (fun wx => ∃ (q8 : Option Addr) (l8 c8 : Nat) (q9 : Option Addr) (l9 c9 : Nat), Aside (Sy w most (some ⟨sb, so, none⟩) L c F (.slice q9 l9 c9) (xs ++ [((h, D), .slice q8 l8 c8)]) wx))
            · by_cases hc2 : c = u
              · subst hc2
                have RD : Aside (∀ W, Keeps Nowhere w6 W → Rd W (.slice (some ⟨sb, so, none⟩) N 0) D) := ⟨fun W k => by
                  have r0 : RdS Nowhere W (.slice (some ⟨sb, so, none⟩) L c) F := P6.it.rd.later (P6.it.bel.trans (k.bel.mono P6.it.bel.size))
                  have r1 := r0.seg (a := c) (n := N) (by have := hu.it; have := hLe.it.1; have := HM.it; have := HRr.it; omega)
                  rw [if_pos rfl, Nat.sub_self, show F.drop c = F.drop (t + 12) from by rw [hu.it], hD.it] at r1
                  exact r1⟩
                go_region_law (first
                  | (refine step_appendO 66 rfl rfl (.tmp 56) (.tmp 65) rfl (.slice (some ⟨w6.heap.size, 0, none⟩) 0 0) (.slice (some ⟨sb, so, none⟩) N 0) [] D OWE.it (RD.it _ KE.it) bnd.it rfl rfl ?_; intro q8 l8 c8 w8 O8 K8 B8; have Z8 := Aside.mk (Sy.copied P6.it KE.it O8.it K8.it B8.it); have X8 := Aside.mk (X6.it.later Z8.it.1 (fun x => x)); obtain ⟨e0, e1, g0, _, _, _⟩ := Z8.it.2.1.cells; have y0 : w8.cell? ⟨p5, 0, none⟩ = some (.int .u8 v3) := (by rw [X8.it.cell]; rfl); have y1 : w8.cell? ⟨p5, 1, none⟩ = some (.int .u8 t3') := (by rw [X8.it.cell]; rfl); have y2 : w8.cell? ⟨p5, 2, none⟩ = some (.int .u16 f3') := (by rw [X8.it.cell]; rfl); have y3 : w8.cell? ⟨p5, 3, none⟩ = some (.int .u32 s3) := (by rw [X8.it.cell]; rfl); have y4 : w8.cell? ⟨p5, 4, none⟩ = some (.int .u32 l3) := (by rw [X8.it.cell]; rfl); have g8 : (w8.alloc (.cells #[.int .u8 v3, .int .u8 t3', .int .u16 f3', .int .u32 s3, .int .u32 l3, .slice q8 l8 c8] 46)).cell? ⟨w.heap.size + 2, 0, none⟩ = some (.slice fq fl fc) := ((Z8.it.2.1.later (alloc_below w8 _)).cells).2.2.1)
                  | (refine step_appendR 69 rfl rfl (.tmp 54) (.tmp 68) 34 rfl 46 _ 6 40 Tryd.underlying34 frameInfo rfl (by decide) w8 ((Keeps.refl Nowhere w8).alloc _) w.heap.size _ xs.length _ Z8.it.2.1.row _ 1 [.int .u8 v3, .int .u8 t3', .int .u16 f3', .int .u32 s3, .int .u32 l3, .slice q8 l8 c8] (readsK_new w8 46 [.int .u8 v3, .int .u8 t3', .int .u16 f3', .int .u32 s3, .int .u32 l3, .slice q8 l8 c8]) (by simp [Value.oneCell']) b8.it b9.it Z8.it.2.1.bel.size rfl rfl ?_; intro q9 l9 c9 w9 O9 K9; have Z9 := Aside.mk (Sy.next (x := ((h, D), .slice q8 l8 c8)) Z8.it.2.1 ((Keeps.refl Nowhere w8).alloc _) (by rw [← hV3.it, ← hT3.it, ← hF3.it, ← hS3.it, ← hL3.it] at O9; exact O9.it) K9.it Z8.it.2.2); have v9 : w9.cell? ⟨w.heap.size + 2, 0, none⟩ = some (.slice fq fl fc) := (by rw [Z9.it.1.cell]; rfl); have z9 : w9.frozen? ⟨w.heap.size + 2, 0, none⟩ = false := Z9.it.1.frozen 0))
                all_goals
                  go_wp2
                  go_meet
                  exact ⟨q8, l8, c8, q9, l9, c9, ⟨Z9.it.2⟩⟩
              · have RD : Aside (∀ W, Keeps Nowhere w6 W → Rd W (.slice (some ⟨sb, so + u, none⟩) N (c - u)) D) := ⟨fun W k => by
                  have r0 : RdS Nowhere W (.slice (some ⟨sb, so, none⟩) L c) F := P6.it.rd.later (P6.it.bel.trans (k.bel.mono P6.it.bel.size))
                  have r1 := r0.seg (a := u) (n := N) (by have := hu.it; have := hLe.it.1; have := HM.it; have := HRr.it; omega)
                  rw [if_neg hc2, hu.it, hD.it, ← hu.it] at r1
                  have e : (some (⟨sb, so, none⟩ : Addr)).map (·.add u) = some ⟨sb, so + u, none⟩ := by rw [Option.map_some, add_none]
                  rw [e] at r1
                  exact r1⟩
                go_region_law (first
                  | (refine step_appendO 66 rfl rfl (.tmp 56) (.tmp 65) rfl (.slice (some ⟨w6.heap.size, 0, none⟩) 0 0) (.slice (some ⟨sb, so + u, none⟩) N (c - u)) [] D OWE.it (RD.it _ KE.it) bnd.it rfl rfl ?_; intro q8 l8 c8 w8 O8 K8 B8; have Z8 := Aside.mk (Sy.copied P6.it KE.it O8.it K8.it B8.it); have X8 := Aside.mk (X6.it.later Z8.it.1 (fun x => x)); obtain ⟨e0, e1, g0, _, _, _⟩ := Z8.it.2.1.cells; have y0 : w8.cell? ⟨p5, 0, none⟩ = some (.int .u8 v3) := (by rw [X8.it.cell]; rfl); have y1 : w8.cell? ⟨p5, 1, none⟩ = some (.int .u8 t3') := (by rw [X8.it.cell]; rfl); have y2 : w8.cell? ⟨p5, 2, none⟩ = some (.int .u16 f3') := (by rw [X8.it.cell]; rfl); have y3 : w8.cell? ⟨p5, 3, none⟩ = some (.int .u32 s3) := (by rw [X8.it.cell]; rfl); have y4 : w8.cell? ⟨p5, 4, none⟩ = some (.int .u32 l3) := (by rw [X8.it.cell]; rfl); have g8 : (w8.alloc (.cells #[.int .u8 v3, .int .u8 t3', .int .u16 f3', .int .u32 s3, .int .u32 l3, .slice q8 l8 c8] 46)).cell? ⟨w.heap.size + 2, 0, none⟩ = some (.slice fq fl fc) := ((Z8.it.2.1.later (alloc_below w8 _)).cells).2.2.1)
                  | (refine step_appendR 69 rfl rfl (.tmp 54) (.tmp 68) 34 rfl 46 _ 6 40 Tryd.underlying34 frameInfo rfl (by decide) w8 ((Keeps.refl Nowhere w8).alloc _) w.heap.size _ xs.length _ Z8.it.2.1.row _ 1 [.int .u8 v3, .int .u8 t3', .int .u16 f3', .int .u32 s3, .int .u32 l3, .slice q8 l8 c8] (readsK_new w8 46 [.int .u8 v3, .int .u8 t3', .int .u16 f3', .int .u32 s3, .int .u32 l3, .slice q8 l8 c8]) (by simp [Value.oneCell']) b8.it b9.it Z8.it.2.1.bel.size rfl rfl ?_; intro q9 l9 c9 w9 O9 K9; have Z9 := Aside.mk (Sy.next (x := ((h, D), .slice q8 l8 c8)) Z8.it.2.1 ((Keeps.refl Nowhere w8).alloc _) (by rw [← hV3.it, ← hT3.it, ← hF3.it, ← hS3.it, ← hL3.it] at O9; exact O9.it) K9.it Z8.it.2.2); have v9 : w9.cell? ⟨w.heap.size + 2, 0, none⟩ = some (.slice fq fl fc) := (by rw [Z9.it.1.cell]; rfl); have z9 : w9.frozen? ⟨w.heap.size + 2, 0, none⟩ = false := Z9.it.1.frozen 0))
                all_goals
                  go_wp2
                  go_meet
                  exact ⟨q8, l8, c8, q9, l9, c9, ⟨Z9.it.2⟩⟩
            obtain ⟨q8, l8, c8, q9, l9, c9, Z9⟩ := hcut
            go_wp2
            go_roundw
            case rel => exact ⟨t + 12 + N, xs ++ [((h, D), .slice q8 l8 c8)], q9, l9, c9, by go_num, ⟨SL.it.next hh.it hD.it hlen.it hDl.it hkf.it hszN.it⟩, Z9⟩
            case measure => simp [intOf]; have := HM.it; have := HRr.it; omega
      · have hcb := chkH_le most h
        have f2 : w6.frozen? ⟨w.heap.size + 2, 2, none⟩ = false := P6.it.t.frozen 2
        have PP := SL.it.prs
        have hkf : ckH most h = false := decide_eq_false hck
        rw [show prs most (F.drop t) = ⟨[], [], some h⟩ from by
          have := parse_bad (ck := ckH most) (sz := szN) (ns := F.drop t) (by rw [hTl.it]; omega) (by rw [hh.it]; exact hkf)
          rw [hh.it] at this
          exact this] at PP
        have HPP := Aside.mk PP
        have hk1 : (chkH most h != 0) = true := by simpa using hck
        obtain ⟨e, he⟩ : ∃ e, Aside (chkH most h = e) := ⟨_, ⟨rfl⟩⟩
        rw [he.it] at hk1 hcb ⊢
        clear PP hck hkf x1 x4 f1
        go_upto_region 8 with fail
        have T7 := Aside.mk (P6.it.t.setCell 2 (.int .i64 (1000 + e)))
        have R7 := Aside.mk (P6.it.res.setOther ⟨w.heap.size + 2, 2, none⟩ (.int .i64 (1000 + e)) (by show w.heap.size + 1 ≠ w.heap.size + 2; omega))
        have X7 := Aside.mk (X6.it.setOther ⟨w.heap.size + 2, 2, none⟩ (.int .i64 (1000 + e)) hp5)
        have K7 : Aside (Keeps (fun k => k = w.heap.size + 2) w6 (w6.setCell ⟨w.heap.size + 2, 2, none⟩ (.int .i64 (1000 + e)))) := ⟨(Keeps.refl _ _).setCell _ _ (fun _ => rfl)⟩
        generalize w6.setCell ⟨w.heap.size + 2, 2, none⟩ (.int .i64 (1000 + e)) = w7 at T7 R7 X7 K7 ⊢
        clear d0 d1 t0 t1 t2 t3 f2
        have x3 : w7.cell? ⟨p5, 3, none⟩ = some (.int .u32 s3) := by rw [X7.it.cell]; rfl
        have t3 : w7.cell? ⟨w.heap.size + 2, 3, none⟩ = some (.int .u32 0) := by rw [T7.it.cell]; rfl
        have f3 : w7.frozen? ⟨w.heap.size + 2, 3, none⟩ = false := T7.it.frozen 3
        go_upto_region 9 with fail
        have T5 := Aside.mk (T7.it.setCell 3 (.int .u32 s3))
        have R5 := Aside.mk (R7.it.setOther ⟨w.heap.size + 2, 3, none⟩ (.int .u32 s3) (by show w.heap.size + 1 ≠ w.heap.size + 2; omega))
        have K5 := Aside.mk (K7.it.setCell ⟨w.heap.size + 2, 3, none⟩ (.int .u32 s3) (fun _ => rfl))
        generalize w7.setCell ⟨w.heap.size + 2, 3, none⟩ (.int .u32 s3) = w5 at T5 R5 K5 ⊢
        clear x3 t3 f3 T7 R7 X7 K7
        have u0 : w5.cell? ⟨w.heap.size + 2, 0, none⟩ = some (.slice fq fl fc) := by rw [T5.it.cell]; rfl
        have u1 : w5.cell? ⟨w.heap.size + 2, 1, none⟩ = some (.int .i64 0) := by rw [T5.it.cell]; rfl
        have u2 : w5.cell? ⟨w.heap.size + 2, 2, none⟩ = some (.int .i64 (1000 + e)) := by rw [T5.it.cell]; rfl
        have u3 : w5.cell? ⟨w.heap.size + 2, 3, none⟩ = some (.int .u32 s3) := by rw [T5.it.cell]; rfl
        have TH := Aside.mk (there4 R5.it)
        have TI := Aside.mk (toldInfo (.slice fq fl fc) 0 (1000 + e) s3)
        have TO := Aside.mk (toldOne fq fl fc 0 (1000 + e) s3)
        go_wp2_with (first | (refine wpList_store_mid rfl 57 _ _ rfl (w.heap.size + 1) 0 #[.slice fq fl fc, .int .i64 0, .int .i64 (1000 + e), .int .u32 s3] rfl rfl TH.it TI.it TO.it ?_; obtain ⟨C6, K6⟩ := res_stored R5.it (.slice fq fl fc) 0 (1000 + e) s3; have K6 := Aside.mk K6; generalize w5.setCells (w.heap.size + 1) 0 (#[.slice fq fl fc, .int .i64 0, .int .i64 (1000 + e), .int .u32 s3] : Array Value).toList = w9 at C6 K6 ⊢; have r0 : w9.cell? ⟨w.heap.size + 1, 0, none⟩ = some (.slice fq fl fc) := (by rw [C6.cell]; rfl); have r1 : w9.cell? ⟨w.heap.size + 1, 1, none⟩ = some (.int .i64 0) := (by rw [C6.cell]; rfl); have r2 : w9.cell? ⟨w.heap.size + 1, 2, none⟩ = some (.int .i64 (1000 + e)) := (by rw [C6.cell]; rfl); have r3 : w9.cell? ⟨w.heap.size + 1, 3, none⟩ = some (.int .u32 s3) := (by rw [C6.cell]; rfl)) | fail)
        have D6 := P6.it.done K5.it R5.it K6.it
        refine bodyPost_ret (v := .agg #[.slice fq fl fc, .int .i64 0, .int .i64 (1000 + e), .int .u32 s3]) (by simp [results, Tryd.results16, go_sem, r0, r1, r2, r3]) rfl ?_
        rw [HPP.it]
        refine ⟨fq, fl, fc, ?_, ⟨by simpa using D6.1⟩, ⟨D6.2⟩⟩
        simp [restS, codeS, strmS, he.it, hS3.it]
end Go.Proofs.YtjhjhmhhnifgmaaDoor
