/-
  RingMemory's world in its second half: four rings, the document's beside them, one list that is wanted, all the lists that were answered
-/
import Derived.Test.YtkmijhfimkcoiaaDoorRmB
import Derived.Test.YtkmijhfimkcoiaaDoorRingStep
import Derived.Test.YtkmijhfimkcoiaaDoorRingBegin
import Derived.Test.YtkmijhfimkcoiaaDoorRingOps2
import Derived.Test.YtkmijhfimkcoiaaDoorRingFixed
namespace Go.Proofs.YtkmijhfimkcoiaaDoor
open Go.RowKit Rint

variable {B : Nat} {X : Nat → TypeId → List Value → Prop} {w0 w w' W : World} {p i k : Nat} {R : Nat → Value} {C D : Nat → Nat} {L M : Nat → List Int} {V : Nat → Value} {own own' : Nat → Nat} {I : Nat → Prop} {v v' wv av : Value} {l wl : List Int} {vs : List Value} {f : Nat → List Int}

theorem RingO.sn {x : Value} {cap : Nat} {items : List Value} (h : RingO own i w x cap items) (s : Sn I own w own' w') (hi : ¬ I i) : RingO own' i w' x cap items :=
  (h.later s.keeps (fun k e _ e' => hi (by rw [e] at e'; exact e'))).mono (fun k e _ => (s.agree k e.2).trans e.1)
theorem ReadsO.sn {j : Nat} {xs : List Value} (h : ReadsO own j w v xs) (s : Sn I own w own' w') (hi : ¬ I j) : ReadsO own' j w' v xs := by
  refine ⟨?_, h.2⟩
  obtain ⟨a, c, rfl, hl, hc⟩ := h.1
  refine ⟨a, c, rfl, hl, fun n u hn => ?_⟩
  obtain ⟨x, hx, hno, hce⟩ := hc n u hn
  have hb := World.block_lt_of_cell? w _ hce
  have hxo : own x.block = j := Classical.byContradiction hno
  have hb' : x.block < w.heap.size := by rwa [add_block] at hb
  refine ⟨x, hx, fun h => h ((s.agree _ hb').trans hxo), ?_⟩
  rw [World.cell?_of_block (w := w) (s.keeps.block _ hb (by rw [add_block, hxo]; exact hi))]; exact hce
theorem Play2.sn (h : Play2 B w0 X p R C D L M V own w) (s : Sn I own w own' w') (hI : ∀ q, q ≤ 30 → ¬ I q) : Play2 B w0 X p R C D L M V own' w' :=
  ⟨h.ground.sn s (hI 0 (by decide)), h.cells.sn s (hI 7 (by decide)), fun i hi => RingO.sn (h.ring i hi) s (hI _ (by omega)), fun i hi => (h.row i hi).sn s (hI _ (by omega)), fun g e cs hx => (h.kept g e cs hx).sn s (hI 30 (by decide))⟩
theorem row_owns {e : TypeId} {xs : List Value} (h : RowAt w e v xs) (hm : xs.length ≤ maxLen) : w.ownsRow 0 e 1 v xs.length xs := by
  rcases h with ⟨rfl, rfl⟩ | ⟨g, rfl, hc⟩
  · exact World.ownsRow_nil _ _ _ _
  · exact ⟨by simp, .inr ⟨g, xs.length, xs.toArray, rfl, Nat.zero_le _, hc, Nat.le_refl _, hm, by simp, by simp⟩⟩
theorem XA.of (h : RowAt w 3 v (iv l)) (hm : l.length ≤ 2147483647) (ho : ∀ b, v.ownBlock = some b → own b = 100 + k) : XA own w k v l := by
  have := row_owns h (by rw [iv_length]; unfold maxLen; omega)
  rw [iv_length] at this
  exact ⟨this, fun b hb => ⟨ho b hb, h.lt b hb⟩⟩
theorem XA.reads (h : XA own w k v l) : ReadsOff Nowhere w v (iv l) := by
  obtain ⟨a, c, rfl, hc⟩ := h.shape
  refine ⟨a, c, by rw [iv_length], by rw [iv_length]; exact hc, fun j u hj => ?_⟩
  unfold iv at hj
  rw [List.getElem?_map] at hj
  cases hy : l[j]? with
  | none => rw [hy] at hj; cases hj
  | some y =>
    rw [hy] at hj
    simp only [Option.map_some, Option.some.injEq] at hj
    subst hj
    obtain ⟨b, c', e, hce⟩ := h.cell hy
    injection e with e1
    subst e1
    exact ⟨_, rfl, fun x => x, by rw [add_none, Nat.zero_add]; exact hce⟩
theorem XA.sn' (h : XA own w k v l) (s : Sn I own w own' w') (hi : ¬ I (100 + k)) : XA own' w' k v l := OwR.sn h s hi

structure Mw (B : Nat) (w0 : World) (p : Nat) (R : Nat → Value) (C : Nat → Nat) (L M : Nat → List Int) (V : Nat → Value) (wv : Value) (wl : List Int) (av : Value) (vs : List Value) (f : Nat → List Int) (own : Nat → Nat) (w : World) : Prop where
  pl : Play2 B w0 NoneKept p R C C L M V own w
  wt : ReadsO own 40 w wv (iv wl)
  all : OwR own 5 w 27 1 av vs.length vs
  xs : ∀ k v, vs[k]? = some v → XA own w k v (f k)
theorem Mw.sn (h : Mw B w0 p R C L M V wv wl av vs f own w) (s : Sn I own w own' w') (hI : ∀ q, q ≤ 40 ∨ 100 ≤ q → ¬ I q) : Mw B w0 p R C L M V wv wl av vs f own' w' :=
  ⟨h.pl.sn s (fun q hq => hI q (.inl (by omega))), h.wt.sn s (hI 40 (.inl (by decide))), h.all.sn s (hI 5 (.inl (by decide))), fun k v e => (h.xs k v e).sn' s (hI _ (.inr (by omega)))⟩
theorem Mw.idle (h : Mw B w0 p R C L M V wv wl av vs f own w) (s : Sn (fun _ => False) own w own' w') : Mw B w0 p R C L M V wv wl av vs f own' w' := h.sn s (fun _ _ x => x)
theorem Mw.quiet (h : Mw B w0 p R C L M V wv wl av vs f own w) (k : Keeps Nowhere w w') : Mw B w0 p R C L M V wv wl av vs f own w' := h.idle (Sn.same k)
theorem Mw.push (h : Mw B w0 p R C L M V wv wl av vs f own w) (hX : XA own w vs.length v l) (hk : Keeps Nowhere w W) (ho : w'.ownsRow 0 27 1 v' (vs.length + 1) (vs ++ [v])) (sp : Split av v' 1 W w') : Mw B w0 p R C L M V wv wl v' (vs ++ [v]) (fun j => if j = vs.length then l else f j) (give own w.heap.size 5) w' := by
  obtain ⟨a, s⟩ := h.all.app hk ho sp
  have s40 : ReadsO (give own w.heap.size 5) 40 w' wv (iv wl) := h.wt.sn s (by decide)
  refine ⟨⟨h.pl.ground.sn s (by decide), h.pl.cells.sn s (by decide), fun i hi => RingO.sn (h.pl.ring i hi) s (by omega), fun i hi => (h.pl.row i hi).sn s (by omega), fun g e cs hx => hx.elim⟩, s40, by rw [List.length_append]; exact a, fun j u e => ?_⟩
  rcases Nat.lt_trichotomy j vs.length with hj | hj | hj
  · rw [List.getElem?_append_left hj] at e
    rw [if_neg (by omega)]
    exact (h.xs j u e).sn' s (by omega)
  · subst hj
    rw [List.getElem?_append_right (Nat.le_refl _)] at e
    simp at e
    subst e
    rw [if_pos rfl]
    exact hX.sn' s (by omega)
  · rw [List.getElem?_append_right (by omega), List.getElem?_eq_none (by simp; omega)] at e
    cases e
theorem Mw.pushRun (h : Mw B w0 p R C L M V wv wl av vs f own w) (hX : XA own w vs.length v l) (hv : v.oneCell' = true) (hb : vs.length ≤ 1048576) : ∃ (a : Option Addr) (c : Nat) (w' : World) (own' : Nat → Nat), (∀ ty, (Builtin.append_ #[44, 44] ty #[av, .slice (some ⟨w.heap.size, 0, none⟩) 1 1]).run Tryd.prog (w.alloc (.cells #[v] 27)) = .ok (.slice a (vs.length + 1) c) w') ∧ Aside (Mw B w0 p R C L M V wv wl (.slice a (vs.length + 1) c) (vs ++ [v]) (fun j => if j = vs.length then l else f j) own' w') := by
  obtain ⟨i, hi, hz0, hz1, hz2⟩ := info_parts infoS
  have K : Keeps Nowhere w (w.alloc (.cells #[v] 27)) := (Keeps.refl _ _).alloc _
  obtain ⟨u, w', run, o', sp⟩ := run_appendS (P := Tryd.prog) (w.alloc (.cells #[v] 27)) 44 27 i _ 1 24 Tryd.underlying44 hi hz0 hz1 hz2 rfl (by decide) av vs.length vs (owns_later h.all.1 K (fun _ _ x => x)) (.slice (some ⟨w.heap.size, 0, none⟩) 1 1) 1 [v] (by decide) (reads_one w v) (by simp [hv]) (by omega) (by unfold maxLen; omega)
  obtain ⟨a, c, rfl⟩ := slice_len o'
  exact ⟨a, c, w', _, run, ⟨h.push hX K o' sp⟩⟩
theorem reads_two {e : TypeId} (W : World) (u1 u2 : Value) : ReadsK 1 (W.alloc (.cells #[u1, u2] e)) (.slice (some ⟨W.heap.size, 0, none⟩) 2 2) 2 [u1, u2] :=
  ⟨rfl, _, 2, rfl, Nat.le_refl _, by decide, fun h => (by cases h), fun j y hj => ⟨_, _, rfl, by
    match j, hj with
    | 0, hj => simp only [List.getElem?_cons_zero, Option.some.injEq] at hj; subst hj; exact (Cells.new W e [u1, u2]).cell 0
    | 1, hj => simp only [List.getElem?_cons_succ, List.getElem?_cons_zero, Option.some.injEq] at hj; subst hj; exact (Cells.new W e [u1, u2]).cell 1
    | j + 2, hj => simp at hj⟩⟩
/-- two lists more; the row as it was stands -/
theorem Mw.twoRun (h : Mw B w0 p R C L M V wv wl av vs f own w) {v1 v2 : Value} {l1 l2 : List Int} (h1 : XA own w vs.length v1 l1) (h2 : XA own w (vs.length + 1) v2 l2) (o1 : v1.oneCell' = true) (o2 : v2.oneCell' = true) (hb : vs.length ≤ 1048576) : ∃ (a : Option Addr) (c : Nat) (w' : World) (own' : Nat → Nat), (∀ ty, (Builtin.append_ #[44, 44] ty #[av, .slice (some ⟨w.heap.size, 0, none⟩) 2 2]).run Tryd.prog (w.alloc (.cells #[v1, v2] 27)) = .ok (.slice a (vs.length + 2) c) w') ∧ Aside (Mw B w0 p R C L M V wv wl av vs f own' w') ∧ Aside (OwR own' 5 w' 27 1 (.slice a (vs.length + 2) c) (vs ++ [v1, v2]).length (vs ++ [v1, v2])) ∧ Aside (XA own' w' vs.length v1 l1) ∧ Aside (XA own' w' (vs.length + 1) v2 l2) := by
  obtain ⟨i, hi, hz0, hz1, hz2⟩ := info_parts infoS
  have K : Keeps Nowhere w (w.alloc (.cells #[v1, v2] 27)) := (Keeps.refl _ _).alloc _
  obtain ⟨u, w', run, o', sp⟩ := run_appendS (P := Tryd.prog) (w.alloc (.cells #[v1, v2] 27)) 44 27 i _ 1 24 Tryd.underlying44 hi hz0 hz1 hz2 rfl (by decide) av vs.length vs (owns_later h.all.1 K (fun _ _ x => x)) (.slice (some ⟨w.heap.size, 0, none⟩) 2 2) 2 [v1, v2] (by decide) (reads_two w v1 v2) (by simp [o1, o2]) (by omega) (by unfold maxLen; omega)
  obtain ⟨a, c, rfl⟩ := slice_len o'
  obtain ⟨a1, s⟩ := h.all.app K o' sp
  have a2 := h.all.stays (by simp) K o' sp
  exact ⟨a, c, w', _, run, ⟨⟨⟨h.pl.ground.sn s (by decide), h.pl.cells.sn s (by decide), fun i hi => RingO.sn (h.pl.ring i hi) s (by omega), fun i hi => (h.pl.row i hi).sn s (by omega), fun g e cs hx => hx.elim⟩, h.wt.sn s (by decide), a2, fun j u e => (h.xs j u e).sn' s (by omega)⟩⟩, ⟨by rw [List.length_append]; exact a1⟩, ⟨h1.sn' s (by omega)⟩, ⟨h2.sn' s (by omega)⟩⟩
theorem L31 (h : Play2 B w0 X p R C D L M V own w) (i : Nat) (hi : i < 4) : (L i).length ≤ C i ∧ C i ≤ 2147483647 := by
  have := (h.ring i hi).len
  rwa [iv_length] at this
theorem XA.len (h : XA own w k v l) : ∃ a c, v = .slice a l.length c := slice_len h.1
theorem m_peek (h : Mw B w0 p R C L M V wv wl av vs f own w) (i : Nat) (hi : i < 4) (n : Int) (k : Nat) :
    Calls Tryd.prog 12 #[R i, .int .i64 n] w fun e w' => ∃ a c own', e = .returned (.slice a ((L i).take n.toNat).length c) ∧ Aside (XA own' w' k (.slice a ((L i).take n.toNat).length c) ((L i).take n.toNat)) ∧ Aside (Mw B w0 p R C L M V wv wl av vs f own' w') := by
  refine (peekV (h.pl.ring i hi) n).mono ?_
  rintro e w' ⟨s, rfl, hs, hfr, hk⟩
  rw [iv_take] at hs
  have X : XA (give own w.heap.size (100 + k)) w' k s ((L i).take n.toNat) := XA.of hs (by have := L31 h.pl i hi; have := (List.take_sublist n.toNat (L i)).length_le; omega) (fun b hb => give_new (hfr b hb))
  obtain ⟨a, c, rfl⟩ := X.len
  exact ⟨a, c, _, rfl, ⟨X⟩, ⟨h.idle (Sn.quiet hk _)⟩⟩
theorem m_pop (h : Mw B w0 p R C L M V wv wl av vs f own w) (i : Nat) (hi : i < 4) (n : Int) (k : Nat) :
    Calls Tryd.prog 13 #[R i, .int .i64 n] w fun e w' => ∃ a c own', e = .returned (.slice a ((L i).take n.toNat).length c) ∧ Aside (XA own' w' k (.slice a ((L i).take n.toNat).length c) ((L i).take n.toNat)) ∧ Aside (Mw B w0 p R C (upd L i ((L i).drop n.toNat)) M V wv wl av vs f own' w') ∧ Aside (Sn (fun q => q = 10 + i) own w own' w') := by
  refine (popV (h.pl.ring i hi) n).mono ?_
  rintro e w' ⟨s, z, rfl, hs, hz1, hz2, hfr, hr, hk⟩
  rw [iv_drop] at hr
  rw [iv_take] at hs
  have S : Sn (fun q => q = 10 + i) own w (give (give own w.heap.size (100 + k)) z (10 + i)) w' := ⟨fun k hlt => by rw [give_old (by omega), give_old hlt], hk⟩
  have X : XA (give (give own w.heap.size (100 + k)) z (10 + i)) w' k s ((L i).take n.toNat) := XA.of hs (by have := L31 h.pl i hi; have := (List.take_sublist n.toNat (L i)).length_le; omega) (fun b hb => by rw [give_old (hfr b hb).2, give_new (hfr b hb).1])
  obtain ⟨a, c, rfl⟩ := X.len
  exact ⟨a, c, _, rfl, ⟨X⟩, ⟨h.pl.step i hi _ _ S.agree (RingO.mine hr (100 + k) hz1) hk, h.wt.sn S (by omega), h.all.sn S (by omega), fun j u e => (h.xs j u e).sn' S (by omega)⟩, ⟨S⟩⟩
theorem m_push (h : Mw B w0 p R C L M V wv wl av vs f own w) (i : Nat) (hi : i < 4) (src : Value) (xs : List Int) (hx : ReadsOff (fun k => own k = 10 + i) w src (iv xs)) (hl : xs.length ≤ 9223372036854775807) :
    Calls Tryd.prog 8 #[R i, src] w fun e w' => ∃ own', e = .returned (.int .i64 (Nat.min xs.length (C i - (L i).length) : Nat)) ∧ Aside (Mw B w0 p R C (upd L i (L i ++ xs.take (C i - (L i).length))) M V wv wl av vs f own' w') := by
  refine (pushV (h.pl.ring i hi) src (iv xs) hx (by rw [iv_length]; exact hl) (iv_one xs)).mono ?_
  rintro e w' ⟨rfl, hr, hk⟩
  rw [iv_length, iv_length]
  rw [iv_take, iv_append, iv_length] at hr
  have S : Sn (fun q => q = 10 + i) own w (give own w.heap.size (10 + i)) w' := ⟨fun k hlt => give_old hlt, hk⟩
  exact ⟨_, rfl, ⟨h.pl.step i hi _ _ S.agree (RingO.mine0 hr) hk, h.wt.sn S (by omega), h.all.sn S (by omega), fun j u e => (h.xs j u e).sn' S (by omega)⟩⟩
theorem m_seen (h : Mw B w0 p R C L L V wv wl av vs f own w) (i : Nat) (hi : i < 4) :
    Calls Tryd.prog 10 #[ptr p, .int .i64 i] w fun e w' => e = .returned (.bool true) ∧ Aside (Mw B w0 p R C L L V wv wl av vs f own w') := by
  refine (seen_ok h.pl.one i hi).mono ?_
  rintro e w' ⟨rfl, k⟩
  exact ⟨rfl, ⟨h.quiet k⟩⟩
/-- apart, and then the lists are as it wrote them -/
theorem m_apart (h : Mw B w0 p R C L M V wv wl av vs f own w) {bv : Value} {us : List Value} {g : Nat → List Int} (hb : OwR own 5 w 27 1 bv us.length us) (hx : ∀ k v, us[k]? = some v → XA own w k v (g k)) (hn : us.length ≤ 1000) (hl : ∀ k, k < us.length → (g k).length ≤ 2147483647) (hp : vs <+: us) (hg : ∀ k, k < vs.length → g k = f k) :
    Calls Tryd.prog 15 #[bv] w fun e w' => e = .returned (.bool true) ∧ ∃ own', Aside (Mw B w0 p R C L M V wv wl av vs (fun k => r90 (f k).length k) own' w') := by
  refine (apart_any g hb hx hn hl).mono ?_
  rintro e w' ⟨rfl, own', S, Y⟩
  refine ⟨rfl, own', ⟨h.pl.sn S.it (fun q hq => by unfold Ia; omega), h.wt.sn S.it (by unfold Ia; omega), h.all.sn S.it (by unfold Ia; omega), fun k v e => ?_⟩⟩
  have hk := (List.getElem?_eq_some_iff.1 e).1
  rw [← hg k hk]
  obtain ⟨t, rfl⟩ := hp
  exact Y.it k v (by rw [List.getElem?_append_left hk]; exact e)
end Go.Proofs.YtkmijhfimkcoiaaDoor
