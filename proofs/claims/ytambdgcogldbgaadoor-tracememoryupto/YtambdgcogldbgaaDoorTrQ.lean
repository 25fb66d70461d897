/-
  layer 24's laws: two histories; TraceKeys' and TraceSplit's world
-/
import Derived.Test.YtambdgcogldbgaaDoorTrK
namespace Go.Proofs.YtambdgcogldbgaaDoor
open Go.RowKit Go.Maps

variable {own own' : Nat → Nat} {i p ph pg T : Nat} {w w' w0 w1 W : World} {L Lg : Hs} {I : Nat → Prop} {k ky : Int} {b : Nat} {v bv' sl : Value} {r : Rc} {A : Nat → Addr} {ms ns : List Int}

theorem strOf_append (x y : List Int) : strOf x ++ strOf y = strOf (x ++ y) := by
  apply ByteArray.ext
  simp [strOf, ByteArray.data_append]
theorem OnG.cell {a : Addr} {x : Value} (hg : OnG A w0 own W) (h : w0.cell? a = some x) : W.cell? a = some x := by
  rw [hg.g.bel.cell (World.block_lt_of_cell? w0 _ h)]; exact h
/-- the rows of one key -/
def one (k : Int) : Option Rc → Hs
  | none => []
  | some r => [(k, r)]
theorem got_one (k : Int) (o : Option Rc) : got (one k o) k = o.getD rc0 := by
  cases o with
  | none => rfl
  | some r => simp [one, got, tget]
theorem tget_one (k : Int) (o : Option Rc) : tget (one k o) k = o := by
  cases o with
  | none => rfl
  | some r => simp [one, tget]
/-- what each call does: a row is set, or nothing is done -/
def opL (c : Rc → Bool) (f : Rc → Rc) (L : Hs) (k : Int) : Hs := if c (got L k) then tset L k (f (got L k)) else L
theorem opL_wrote (L : Hs) (k : Int) (ms : List Int) : wroteL L k ms = opL (fun r => !r.cl) (fun r => { r with wr := r.wr ++ ms }) L k := by
  unfold wroteL opL
  by_cases h : (got L k).cl = true <;> simp [h]
theorem opL_closed (L : Hs) (k : Int) : closedL L k = opL (fun r => !r.cl) (fun r => { r with cl := true }) L k := by
  unfold closedL opL
  by_cases h : (got L k).cl = true <;> simp [h]
theorem opL_gave (L : Hs) (k : Int) (ms : List Int) : gaveL L k ms = opL (fun r => gaveRB r ms) (fun r => { r with rd := r.rd + ms.length }) L k := rfl
theorem opL_ended (L : Hs) (k : Int) : endedL L k = opL endedRB (fun r => { r with en := true }) L k := rfl
theorem opL_other {c : Rc → Bool} {f : Rc → Rc} {L : Hs} {k k' : Int} (h : k' ≠ k) : tget (opL c f L k) k' = tget L k' := by
  unfold opL
  split
  · rw [tget_tset, if_neg h]
  · rfl
theorem opL_one (c : Rc → Bool) (f : Rc → Rc) (L : Hs) (k : Int) : one k (tget (opL c f L k) k) = opL c f (one k (tget L k)) k := by
  unfold opL
  rw [got_one, show got L k = (tget L k).getD rc0 from rfl]
  split
  · rw [tget_tset, if_pos rfl]
    cases tget L k with
    | none => simp [one, tset]
    | some r => simp [one, tset]
  · rfl
theorem len_one (k : Int) (o : Option Rc) : (one k o).length ≤ 1 := by cases o <;> simp [one]
theorem codeW_one (L : Hs) (k : Int) : wroteC (one k (tget L k)) k = wroteC L k := by unfold wroteC; rw [got_one]; rfl
theorem codeG_one (L : Hs) (k : Int) (ms : List Int) : gaveC (one k (tget L k)) k ms = gaveC L k ms := by unfold gaveC gaveB; rw [got_one]; rfl
theorem codeE_one (L : Hs) (k : Int) : endedC (one k (tget L k)) k = endedC L k := by unfold endedC endedB; rw [got_one]; rfl

abbrev Bxs := List (Nat × TypeId × List Value)
/-- two histories (1 and 2), boxes (8), the bytes that a call gives (4) -/
structure Kw (A : Nat → Addr) (w0 : World) (own : Nat → Nat) (W : World) (ph pg T : Nat) (L Lg : Hs) (X : Bxs) (bv' : Value) (ms : List Int) : Prop where
  g : OnG A w0 own W
  p : PowT w0
  h : TrO own 1 W ph T L
  k : TrO own 2 W pg T Lg
  x : ∀ e ∈ X, CellsO own 8 W e.1 e.2.1 e.2.2
  b : RdO own 4 W bv' ms
variable {X : Bxs} {T' : Nat} {L' : Hs}
theorem Kw.sn (h : Kw A w0 own W ph pg T L Lg X bv' ms) (s : Sn I own W own' w') (h0 : ¬ I 0) (h1 : ¬ I 1) (h2 : ¬ I 2) (h4 : ¬ I 4) (h8 : ¬ I 8) : Kw A w0 own' w' ph pg T L Lg X bv' ms := ⟨h.g.sn s h0, h.p, h.h.sn s h1, h.k.sn s h2, fun e he => (h.x e he).sn s h8, h.b.sn s h4⟩
theorem Kw.quiet (h : Kw A w0 own W ph pg T L Lg X bv' ms) (hk : Keeps Nowhere W w') : Kw A w0 own w' ph pg T L Lg X bv' ms := h.sn (I := fun _ => False) (Sn.same hk) (fun x => x) (fun x => x) (fun x => x) (fun x => x) (fun x => x)
theorem Kw.step (h : Kw A w0 own W ph pg T L Lg X bv' ms) (hk : Keeps Nowhere W w') (n : Nat) : Kw A w0 (give own W.heap.size n) w' ph pg T L Lg X bv' ms := h.sn (I := fun _ => False) (Sn.quiet hk n) (fun x => x) (fun x => x) (fun x => x) (fun x => x) (fun x => x)
theorem Kw.box (h : Kw A w0 own W ph pg T L Lg X bv' ms) (t : TypeId) (cs : List Value) : Kw A w0 (give own W.heap.size 8) (W.alloc (.cells cs.toArray t)) ph pg T L Lg ((W.heap.size, t, cs) :: X) bv' ms := by
  have k := h.step ((Keeps.refl _ _).alloc (.cells cs.toArray t)) 8
  refine { k with x := fun e he => ?_ }
  rcases List.mem_cons.1 he with rfl | he
  · exact ⟨Cells.new W t cs, give_new (Nat.le_refl _)⟩
  · exact k.x e he
theorem Kw.drop (h : Kw A w0 own W ph pg T L Lg X bv' ms) : Kw A w0 own W ph pg T L Lg [] (.slice none 0 0) [] := ⟨h.g, h.p, h.h, h.k, fun e he => (by cases he), ⟨(RowB.nil own 0 _).rd, fun g hg => by simp [Value.ownBlock] at hg⟩⟩
/-- new bytes -/
theorem Kw.row (h : Kw A w0 own W ph pg T L Lg X bv' ms) {v2 : Value} {ms2 : List Int} (hk : Keeps Nowhere W w') (ho : OwnB W.heap.size w' v2 ms2) : Kw A w0 (give own W.heap.size 4) w' ph pg T L Lg X v2 ms2 :=
  { h.step hk 4 with b := ⟨OwnB.rd ho, fun g hg => ⟨owns_lt ho g hg, give_new (owns_base ho g hg)⟩⟩ }
theorem Kw.moveH (h : Kw A w0 own W ph pg T L Lg X bv' ms) (ht : TrO own' 1 w' ph T' L') (s : Sn (fun x => x = 1) own W own' w') (hT : T ≤ T') : Kw A w0 own' w' ph pg T' L' Lg X bv' ms := ⟨h.g.sn s (by decide), h.p, ht, (h.k.sn s (by decide)).mono hT, fun e he => (h.x e he).sn s (by decide), h.b.sn s (by decide)⟩
theorem Kw.moveG (h : Kw A w0 own W ph pg T L Lg X bv' ms) (ht : TrO own' 2 w' pg T' L') (s : Sn (fun x => x = 2) own W own' w') (hT : T ≤ T') : Kw A w0 own' w' ph pg T' L L' X bv' ms := ⟨h.g.sn s (by decide), h.p, (h.h.sn s (by decide)).mono hT, ht, fun e he => (h.x e he).sn s (by decide), h.b.sn s (by decide)⟩
theorem Kw.grd (h : Kw A w0 own W ph pg T L Lg X bv' ms) (hr : Rd w0 sl ns) : Rd W sl ns := hr.later h.g.g.bel
theorem Kw.pow (h : Kw A w0 own W ph pg T L Lg X bv' ms) : PowT W := powT_later h.p h.g.g.bel

/-! each call, on the one and on the other -/
theorem kw_wroteH (h : Aside (Kw A w0 own W ph pg T L Lg X bv' ms)) (hk : Zw ky) (hr : Rd w0 sl ns) (hby : AreBytes ns) (hT : T + ns.length ≤ 70368744177664) (hn : L.length + 1 ≤ 2147483648) : Calls Tryd.prog 10 #[ptr ph, .int .i64 ky, sl] W fun e w' => ∃ ev own', e = .returned ev ∧ Hid (Coded A ev (wroteC L ky)) ∧ Aside (Kw A w0 own' w' ph pg (T + ns.length) (wroteL L ky ns) Lg X bv' ms) := by
  refine (wrote_at h.it.h hk h.it.g.sents (h.it.grd hr) hby hT hn).mono ?_
  rintro e w' ⟨ev, own', rfl, C, X⟩
  exact ⟨ev, own', rfl, C, ⟨h.it.moveH X.it.1 X.it.2 (Nat.le_add_right _ _)⟩⟩
theorem kw_wroteG (h : Aside (Kw A w0 own W ph pg T L Lg X bv' ms)) (hk : Zw ky) (hr : Rd W sl ns) (hby : AreBytes ns) (hT : T + ns.length ≤ 70368744177664) (hn : Lg.length + 1 ≤ 2147483648) : Calls Tryd.prog 10 #[ptr pg, .int .i64 ky, sl] W fun e w' => ∃ ev own', e = .returned ev ∧ Hid (Coded A ev (wroteC Lg ky)) ∧ Aside (Kw A w0 own' w' ph pg (T + ns.length) L (wroteL Lg ky ns) X bv' ms) := by
  refine (wrote_at h.it.k hk h.it.g.sents hr hby hT hn).mono ?_
  rintro e w' ⟨ev, own', rfl, C, X⟩
  exact ⟨ev, own', rfl, C, ⟨h.it.moveG X.it.1 X.it.2 (Nat.le_add_right _ _)⟩⟩
theorem kw_closedH (h : Aside (Kw A w0 own W ph pg T L Lg X bv' ms)) (hk : Zw ky) (hn : L.length + 1 ≤ 2147483648) : Calls Tryd.prog 23 #[ptr ph, .int .i64 ky] W fun e w' => ∃ ev own', e = .returned ev ∧ Hid (Coded A ev (wroteC L ky)) ∧ Aside (Kw A w0 own' w' ph pg T (closedL L ky) Lg X bv' ms) := by
  refine (closed_at h.it.h hk h.it.g.sents hn).mono ?_
  rintro e w' ⟨ev, own', rfl, C, X⟩
  exact ⟨ev, own', rfl, C, ⟨h.it.moveH X.it.1 X.it.2 (Nat.le_refl _)⟩⟩
theorem kw_closedG (h : Aside (Kw A w0 own W ph pg T L Lg X bv' ms)) (hk : Zw ky) (hn : Lg.length + 1 ≤ 2147483648) : Calls Tryd.prog 23 #[ptr pg, .int .i64 ky] W fun e w' => ∃ ev own', e = .returned ev ∧ Hid (Coded A ev (wroteC Lg ky)) ∧ Aside (Kw A w0 own' w' ph pg T L (closedL Lg ky) X bv' ms) := by
  refine (closed_at h.it.k hk h.it.g.sents hn).mono ?_
  rintro e w' ⟨ev, own', rfl, C, X⟩
  exact ⟨ev, own', rfl, C, ⟨h.it.moveG X.it.1 X.it.2 (Nat.le_refl _)⟩⟩
theorem kw_gaveH (h : Aside (Kw A w0 own W ph pg T L Lg X bv' ms)) (hk : Zw ky) (hby : AreBytes ms) (hT : T ≤ 70368744177664) (hn : L.length + 1 ≤ 2147483648) : Calls Tryd.prog 12 #[ptr ph, .int .i64 ky, bv'] W fun e w' => ∃ ev own', e = .returned ev ∧ Hid (Coded A ev (gaveC L ky ms)) ∧ Aside (Kw A w0 own' w' ph pg T (gaveL L ky ms) Lg X bv' ms) := by
  refine (gave_at h.it.h hk h.it.g.sents h.it.b.1 hby hT hn).mono ?_
  rintro e w' ⟨ev, own', rfl, C, X⟩
  exact ⟨ev, own', rfl, C, ⟨h.it.moveH X.it.1 X.it.2 (Nat.le_refl _)⟩⟩
theorem kw_gaveG (h : Aside (Kw A w0 own W ph pg T L Lg X bv' ms)) (hk : Zw ky) (hr : Rd W sl ns) (hby : AreBytes ns) (hT : T ≤ 70368744177664) (hn : Lg.length + 1 ≤ 2147483648) : Calls Tryd.prog 12 #[ptr pg, .int .i64 ky, sl] W fun e w' => ∃ ev own', e = .returned ev ∧ Hid (Coded A ev (gaveC Lg ky ns)) ∧ Aside (Kw A w0 own' w' ph pg T L (gaveL Lg ky ns) X bv' ms) := by
  refine (gave_at h.it.k hk h.it.g.sents hr hby hT hn).mono ?_
  rintro e w' ⟨ev, own', rfl, C, X⟩
  exact ⟨ev, own', rfl, C, ⟨h.it.moveG X.it.1 X.it.2 (Nat.le_refl _)⟩⟩
theorem kw_endedH (h : Aside (Kw A w0 own W ph pg T L Lg X bv' ms)) (hk : Zw ky) (hn : L.length + 1 ≤ 2147483648) : Calls Tryd.prog 25 #[ptr ph, .int .i64 ky] W fun e w' => ∃ ev own', e = .returned ev ∧ Hid (Coded A ev (endedC L ky)) ∧ Aside (Kw A w0 own' w' ph pg T (endedL L ky) Lg X bv' ms) := by
  refine (ended_at h.it.h hk h.it.g.sents hn).mono ?_
  rintro e w' ⟨ev, own', rfl, C, X⟩
  exact ⟨ev, own', rfl, C, ⟨h.it.moveH X.it.1 X.it.2 (Nat.le_refl _)⟩⟩
theorem kw_endedG (h : Aside (Kw A w0 own W ph pg T L Lg X bv' ms)) (hk : Zw ky) (hn : Lg.length + 1 ≤ 2147483648) : Calls Tryd.prog 25 #[ptr pg, .int .i64 ky] W fun e w' => ∃ ev own', e = .returned ev ∧ Hid (Coded A ev (endedC Lg ky)) ∧ Aside (Kw A w0 own' w' ph pg T L (endedL Lg ky) X bv' ms) := by
  refine (ended_at h.it.k hk h.it.g.sents hn).mono ?_
  rintro e w' ⟨ev, own', rfl, C, X⟩
  exact ⟨ev, own', rfl, C, ⟨h.it.moveG X.it.1 X.it.2 (Nat.le_refl _)⟩⟩
theorem kw_restH (h : Aside (Kw A w0 own W ph pg T L Lg X bv' ms)) (hk : Zw ky) (hT : T ≤ 70368744177664) : Calls Tryd.prog 14 #[ptr ph, .int .i64 ky] W fun e w' => ∃ q n c, e = .returned (.slice q n c) ∧ Aside (Rd w' (.slice q n c) (got L ky).rest) ∧ (convert 29 9 (.slice q n c)).run Tryd.prog w' = .ok (.string (strOf (got L ky).rest)) w' ∧ Aside (Keeps Nowhere W w') ∧ Aside (Kw A w0 own w' ph pg T L Lg X bv' ms) := by
  refine (restH_at h.it.h hk hT).mono ?_
  rintro e w' ⟨q, c, rfl, R, K⟩
  have rd := OwnB.rd (B := W.heap.size) (ns := (got L ky).rest) R.it
  exact ⟨q, _, c, rfl, ⟨rd⟩, rd_conv rd, K, ⟨h.it.quiet K.it⟩⟩
theorem kw_restG (h : Aside (Kw A w0 own W ph pg T L Lg X bv' ms)) (hk : Zw ky) (hT : T ≤ 70368744177664) : Calls Tryd.prog 14 #[ptr pg, .int .i64 ky] W fun e w' => ∃ q n c, e = .returned (.slice q n c) ∧ Aside (Rd w' (.slice q n c) (got Lg ky).rest) ∧ (convert 29 9 (.slice q n c)).run Tryd.prog w' = .ok (.string (strOf (got Lg ky).rest)) w' ∧ Aside (Keeps Nowhere W w') ∧ Aside (Kw A w0 own w' ph pg T L Lg X bv' ms) := by
  refine (restH_at h.it.k hk hT).mono ?_
  rintro e w' ⟨q, c, rfl, R, K⟩
  have rd := OwnB.rd (B := W.heap.size) (ns := (got Lg ky).rest) R.it
  exact ⟨q, _, c, rfl, ⟨rd⟩, rd_conv rd, K, ⟨h.it.quiet K.it⟩⟩
end Go.Proofs.YtambdgcogldbgaaDoor
