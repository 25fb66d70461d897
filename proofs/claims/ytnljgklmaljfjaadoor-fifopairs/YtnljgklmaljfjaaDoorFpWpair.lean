/-
  FifoPairs' world
-/
import Derived.Test.YtnljgklmaljfjaaDoorFpMpair
import Derived.Test.YtnljgklmaljfjaaDoorFwAint
import Derived.Test.YtnljgklmaljfjaaDoorRef03e
namespace Go.Proofs.YtnljgklmaljfjaaDoor
open Go.RowKit Fint

variable {A : Nat → Addr} {w0 w w' W : World} {own own' : Nat → Nat} {p rt rw t : Nat} {q q' d d' : Things} {s s' : Value} {C C' : List Bx} {I : Nat → Prop}

theorem Fpair.FifoO.sn {i : Nat} (h : Fpair.FifoO own i W p rt rw q t) (n : Sn I own W own' w') (hi : ¬ I i) : Fpair.FifoO own' i w' p rt rw q t := by
  obtain ⟨v, f, g, h1, h2, h3, h4⟩ := h
  have ho : ∀ k, Fpair.Own p v k → own k = i := by
    rintro k (rfl | e)
    · exact h3
    · exact h4 k e
  exact ⟨v, f, g, h1.later n.keeps (fun k hk e => hi (by rw [← ho k hk]; exact e)), h2, (n.agree p (h1.lt p (.inl rfl))).trans h3, fun k hk => (n.agree k (h1.lt k (.inr hk))).trans (h4 k hk)⟩
/-- the queue of pairs (owner 1), the document's (owner 2), boxes, each by its owner -/
structure Pp (A : Nat → Addr) (w0 : World) (own : Nat → Nat) (W : World) (p rt rw : Nat) (q : Things) (t : Nat) (s : Value) (d : Things) (C : List Bx) : Prop where
  g : Ground w0.heap.size w0 own W
  st : Sents 129 codeVars A w0
  pw : Fpair.PowT w0
  f : Fpair.FifoO own 1 W p rt rw q t
  rd : ReadsK 2 W s d.length (flat d)
  ro : ∀ k, s.ownBlock = some k → own k = 2 ∧ k < W.heap.size
  c : ∀ x ∈ C, CellsO own x.1 W x.2.1 x.2.2.1 x.2.2.2
theorem Pp.sn (h : Pp A w0 own W p rt rw q t s d C) (n : Sn I own W own' w') (h0 : ¬ I 0) (h1 : ¬ I 1) (h2 : ¬ I 2) (hc : ∀ x ∈ C, ¬ I x.1) : Pp A w0 own' w' p rt rw q t s d C :=
  ⟨h.g.sn n h0, h.st, h.pw, h.f.sn n h1, h.rd.later n.keeps (fun b hb e => h2 (by rw [← (h.ro b hb).1]; exact e)), fun k hk => ⟨(n.agree k (h.ro k hk).2).trans (h.ro k hk).1, Nat.lt_of_lt_of_le (h.ro k hk).2 n.keeps.size⟩, fun x hx => (h.c x hx).sn n (hc x hx)⟩
theorem Pp.quiet (h : Pp A w0 own W p rt rw q t s d C) (hk : Keeps Nowhere W w') : Pp A w0 own w' p rt rw q t s d C := h.sn (I := fun _ => False) (Sn.same hk) (fun x => x) (fun x => x) (fun x => x) (fun _ _ x => x)
theorem Pp.step (h : Pp A w0 own W p rt rw q t s d C) (hk : Keeps Nowhere W w') (r : Nat) : Pp A w0 (give own W.heap.size r) w' p rt rw q t s d C := h.sn (I := fun _ => False) (Sn.quiet hk r) (fun x => x) (fun x => x) (fun x => x) (fun _ _ x => x)
theorem Pp.sub (h : Pp A w0 own W p rt rw q t s d C) (hs : ∀ x ∈ C', x ∈ C) : Pp A w0 own W p rt rw q t s d C' := ⟨h.g, h.st, h.pw, h.f, h.rd, h.ro, fun x hx => h.c x (hs x hx)⟩
theorem Pp.bel (h : Pp A w0 own W p rt rw q t s d C) : Keeps Nowhere w0 W := Keeps.ofBelow h.g.bel
theorem Pp.sents (h : Pp A w0 own W p rt rw q t s d C) : Sents 129 codeVars A W := h.st.later h.g.bel
theorem Pp.pow (h : Pp A w0 own W p rt rw q t s d C) : Fpair.PowT W := Fpair.powT_later h.pw h.g.bel
theorem Pp.cell (h : Pp A w0 own W p rt rw q t s d C) {i nb : Nat} {ty : TypeId} {cs : List Value} (hm : (i, nb, ty, cs) ∈ C) (j : Nat) : W.cell? ⟨nb, j, none⟩ = cs[j]? := (h.c _ hm).1.cell j
theorem Pp.frz (h : Pp A w0 own W p rt rw q t s d C) {i nb : Nat} {ty : TypeId} {cs : List Value} (hm : (i, nb, ty, cs) ∈ C) (j : Nat) : W.frozen? ⟨nb, j, none⟩ = false := (h.c _ hm).1.frozen j
theorem Pp.slc (h : Pp A w0 own W p rt rw q t s d C) : ∃ a c, s = .slice a d.length c ∧ d.length ≤ c := by
  obtain ⟨_, a, c, e, h1, _⟩ := h.rd
  exact ⟨a, c, e, h1⟩
theorem Pp.box (h : Pp A w0 own W p rt rw q t s d C) (i : Nat) (ty : TypeId) (cs : List Value) : Pp A w0 (give own W.heap.size i) (W.alloc (.cells cs.toArray ty)) p rt rw q t s d ((i, W.heap.size, ty, cs) :: C) := by
  have h' := h.step ((Keeps.refl _ _).alloc (.cells cs.toArray ty)) i
  exact ⟨h'.g, h'.st, h'.pw, h'.f, h'.rd, h'.ro, fun x hx => by
    rcases List.mem_cons.1 hx with rfl | hx
    · exact ⟨Cells.new W ty cs, give_new (Nat.le_refl _)⟩
    · exact h'.c x hx⟩
theorem Pp.write {i nb : Nat} {ty : TypeId} {cs cs' : List Value} (h : Pp A w0 own W p rt rw q t s d ((i, nb, ty, cs) :: C)) (hC : ∀ x ∈ C, x.1 ≠ i) (hi : i ≠ 0 ∧ i ≠ 1 ∧ i ≠ 2) (hk : Keeps (fun k => k = nb) W w') (hc : Cells w' nb ty cs') : Pp A w0 own w' p rt rw q t s d ((i, nb, ty, cs') :: C) := by
  have hn := h.c _ (List.mem_cons_self ..)
  have n : Sn (fun k => k = i) own W own w' := ⟨fun _ _ => rfl, hk.mono (fun k e _ => by rw [e]; exact hn.2)⟩
  have h' := (h.sub (fun x hx => List.mem_cons_of_mem _ hx)).sn n (fun e => hi.1 e.symm) (fun e => hi.2.1 e.symm) (fun e => hi.2.2 e.symm) (fun x hx e => hC x hx e)
  refine ⟨h'.g, h'.st, h'.pw, h'.f, h'.rd, h'.ro, fun x hx => ?_⟩
  rcases List.mem_cons.1 hx with rfl | hx
  · exact ⟨hc, hn.2⟩
  · exact h'.c x hx
/-- the document's answer -/
theorem Pp.ans (h : Pp A w0 own W p rt rw q t s d C) (r : RefAns W w' s s' d') : Pp A w0 (give own W.heap.size 2) w' p rt rw q t s' d' C := by
  have h' := h.step r.keeps 2
  refine ⟨h'.g, h'.st, h'.pw, h'.f, r.reads, fun k hk => ⟨?_, r.lt k hk⟩, h'.c⟩
  rcases r.own k hk with e | e
  · exact (give_old (h.ro k e).2).trans (h.ro k e).1
  · exact give_new e
theorem ans_same (h : Pp A w0 own W p rt rw q t s d C) (hk : Keeps Nowhere W w') : RefAns W w' s s d :=
  ⟨h.rd.later hk (fun _ _ x => x), fun _ hk => .inl hk, hk, fun k hk' => Nat.lt_of_lt_of_le (h.ro k hk').2 hk.size⟩
/-- the queue's own step -/
theorem Pp.fifo (h : Pp A w0 own W p rt rw q t s d C) (hC : ∀ x ∈ C, x.1 ≠ 1) {t' : Nat} (f : Fpair.FifoO (give own W.heap.size 1) 1 w' p rt rw q' t') (k : Keeps (fun k => own k = 1) W w') : Pp A w0 (give own W.heap.size 1) w' p rt rw q' t' s d C := by
  have n : Sn (fun k => k = 1) own W (give own W.heap.size 1) w' := Sn.by k _
  exact ⟨h.g.sn n (by decide), h.st, h.pw, f, h.rd.later n.keeps (fun b hb e => by rw [(h.ro b hb).1] at e; exact absurd e (by decide)), fun k hk => ⟨(n.agree k (h.ro k hk).2).trans (h.ro k hk).1, Nat.lt_of_lt_of_le (h.ro k hk).2 n.keeps.size⟩, fun x hx => (h.c x hx).sn n (fun e => hC x hx e)⟩

theorem pp_dput (h : Aside (Pp A w0 own W p rt rw q t s d C)) (hs : Aside (sumW d ≤ rw ∧ rw ≤ 9223372036854775807 ∧ d.length + 1 ≤ 4398046511104)) (x n : Int) :
    Calls Tryd.prog 9 #[.agg #[.int .i64 rt, .int .i64 rw, s], .int .i64 x, .int .i64 n] W fun e w' => ∃ n0 l n2 own', e = .returned (.tuple #[.agg #[.int .i64 rt, .int .i64 rw, .slice n0 l n2], .int .i64 (putK rt rw d n)]) ∧ Aside (Pp A w0 own' w' p rt rw q t (.slice n0 l n2) (putQ rt rw d x n) C) := by
  obtain ⟨a, c, rfl, _⟩ := h.it.slc
  obtain ⟨h1, h2, h3⟩ := hs.it
  by_cases c1 : n < 0
  · have hk : putK rt rw d n = 2 := by unfold putK; rw [if_pos c1]
    have hq : putQ rt rw d x n = d := by unfold putQ; rw [hk]; rfl
    rw [hk, hq]
    refine (refPut_range W rt rw a d.length c x n c1).mono ?_
    rintro e w' ⟨rfl, k⟩
    exact ⟨a, _, c, _, rfl, ⟨h.it.ans (ans_same h.it k.it)⟩⟩
  · obtain ⟨m, rfl⟩ : ∃ m : Nat, n = m := ⟨n.toNat, by omega⟩
    by_cases c2 : rt ≤ d.length ∨ (rw : Int) < sumW d + m
    · have hk : putK rt rw d m = 6 := by unfold putK; rw [if_neg c1, if_pos c2]
      have hq : putQ rt rw d x m = d := by unfold putQ; rw [hk]; rfl
      rw [hk, hq]
      refine (refPut_full W rt rw a c d x m h.it.rd h1 h2 (by omega)).mono ?_
      rintro e w' ⟨rfl, k⟩
      exact ⟨a, _, c, _, rfl, ⟨h.it.ans (ans_same h.it k.it)⟩⟩
    · have hk : putK rt rw d m = 0 := by unfold putK; rw [if_neg c1, if_neg c2]
      have hq : putQ rt rw d x m = d ++ [(x, m)] := by unfold putQ; rw [hk]; rfl
      rw [hk, hq]
      refine (refPut_ok W rt rw a c d x m h.it.rd h1 h2 (by omega) (by omega) (by omega)).mono ?_
      rintro e w' ⟨s', rfl, r⟩
      obtain ⟨_, n0, n2, he, _⟩ := id r.it.reads
      subst he
      exact ⟨n0, _, n2, _, rfl, ⟨h.it.ans r.it⟩⟩
theorem pp_dget (h : Aside (Pp A w0 own W p rt rw q t s d C)) (hs : Aside (d.length ≤ 4398046511104)) :
    Calls Tryd.prog 12 #[.agg #[.int .i64 rt, .int .i64 rw, s]] W fun e w' => ∃ n0 l n2 own', e = .returned (.tuple #[.agg #[.int .i64 rt, .int .i64 rw, .slice n0 l n2], .agg #[.int .i64 (headV d).1, .int .i64 (headV d).2], .bool (!d.isEmpty)]) ∧ Aside (Pp A w0 own' w' p rt rw q t (.slice n0 l n2) d.tail C) := by
  obtain ⟨a, c, rfl, _⟩ := h.it.slc
  cases d with
  | nil =>
    refine (refGet_none W rt rw a c).mono ?_
    rintro e w' ⟨rfl, k⟩
    exact ⟨a, _, c, _, rfl, ⟨h.it.ans (ans_same h.it k.it)⟩⟩
  | cons x d =>
    have := hs.it
    simp only [List.length_cons] at this
    refine (refGet_some W rt rw a c x d h.it.rd (by omega)).mono ?_
    rintro e w' ⟨s', rfl, r⟩
    obtain ⟨_, n0, n2, he, _⟩ := id r.it.reads
    subst he
    exact ⟨n0, _, n2, _, rfl, ⟨h.it.ans r.it⟩⟩
theorem pp_dgetQ (h : Aside (Pp A w0 own W p rt rw q t s d C)) (hs : Aside (d.length ≤ 4398046511104)) :
    Calls Tryd.prog 12 #[.agg #[.int .i64 rt, .int .i64 rw, s]] W fun e w' => ∃ n0 l n2, e = .returned (.tuple #[.agg #[.int .i64 rt, .int .i64 rw, .slice n0 l n2], .agg #[.int .i64 (headV d).1, .int .i64 (headV d).2], .bool (!d.isEmpty)]) ∧ Aside (Pp A w0 own w' p rt rw q t s d C) := by
  obtain ⟨a, c, rfl, _⟩ := h.it.slc
  cases d with
  | nil =>
    refine (refGet_none W rt rw a c).mono ?_
    rintro e w' ⟨rfl, k⟩
    exact ⟨a, _, c, rfl, ⟨h.it.quiet k.it⟩⟩
  | cons x d =>
    have := hs.it
    simp only [List.length_cons] at this
    refine (refGet_some W rt rw a c x d h.it.rd (by omega)).mono ?_
    rintro e w' ⟨s', rfl, r⟩
    obtain ⟨_, n0, n2, he, _⟩ := id r.it.reads
    subst he
    exact ⟨n0, _, n2, rfl, ⟨h.it.quiet r.it.keeps⟩⟩
theorem pp_drem (h : Aside (Pp A w0 own W p rt rw q t s d C)) (hs : Aside (d.length ≤ 4398046511104)) (ws : Value) (ns : List Int) (hw : ReadsOff Nowhere W ws (iv ns)) (hwn : ns.length ≤ maxLen) :
    Calls Tryd.prog 17 #[.agg #[.int .i64 rt, .int .i64 rw, s], ws] W fun e w' => ∃ n0 l n2 own', e = .returned (.tuple #[.agg #[.int .i64 rt, .int .i64 rw, .slice n0 l n2], .int .i64 (goneN ns d)]) ∧ Aside (Pp A w0 own' w' p rt rw q t (.slice n0 l n2) (restQ ns d) C) := by
  obtain ⟨a, c, rfl, _⟩ := h.it.slc
  have := hs.it
  refine (refRemove_ok W rt rw a c d ws ns h.it.rd hw hwn (by omega)).mono ?_
  rintro e w' ⟨s', rfl, r⟩
  obtain ⟨_, n0, n2, he, _⟩ := id r.it.reads
  subst he
  exact ⟨n0, _, n2, _, rfl, ⟨h.it.ans r.it⟩⟩
theorem pp_put (h : Aside (Pp A w0 own W p rt rw q t s d C)) (hC : Aside (∀ x ∈ C, x.1 ≠ 1)) (ht : Aside (t ≤ 4398046511103)) (x n : Int) :
    Calls Tryd.prog 10 #[.pointer (some ⟨p, 0, none⟩), .agg #[.string (Fpair.txt x), .int .i64 x], .int .i64 n] W fun e w' => ∃ er own', e = .returned er ∧ Coded A er (putK rt rw q n) ∧ Aside (Pp A w0 own' w' p rt rw (putQ rt rw q x n) (t + 1) s d C) := by
  refine (Fpair.put_o h.it.sents h.it.f x n ht.it).mono ?_
  rintro e w' ⟨er, rfl, hc, f, k⟩
  exact ⟨er, _, rfl, hc, ⟨h.it.fifo hC.it f.it k.it⟩⟩
/-- the text of the first thing -/
def hT : Things → ByteArray
  | [] => ⟨#[]⟩
  | x :: _ => Fpair.txt x.1
theorem headA_eq (q : Things) : Fpair.headA q = .agg #[.string (hT q), .int .i64 (headV q).1] := by cases q <;> rfl
theorem head_ways (q : Things) : (hT q = Fpair.txt (headV q).1 ∧ (!q.isEmpty) = true) ∨ (hT q = ⟨#[]⟩ ∧ (headV q).1 = 0 ∧ (headV q).2 = 0 ∧ (!q.isEmpty) = false) := by
  cases q with
  | nil => exact .inr ⟨rfl, rfl, rfl, rfl⟩
  | cons x q => exact .inl ⟨rfl, rfl⟩
theorem pp_get (h : Aside (Pp A w0 own W p rt rw q t s d C)) (hC : Aside (∀ x ∈ C, x.1 ≠ 1)) (ht : Aside (t ≤ 4398046511103)) :
    Calls Tryd.prog 13 #[.pointer (some ⟨p, 0, none⟩)] W fun e w' => ∃ own', e = .returned (.tuple #[.agg #[.string (hT q), .int .i64 (headV q).1], .int .i64 (headV q).2, .bool (!q.isEmpty)]) ∧ Aside (Pp A w0 own' w' p rt rw q.tail t s d C) := by
  refine (Fpair.get_o h.it.f ht.it).mono ?_
  rintro e w' ⟨rfl, f, k⟩
  exact ⟨_, by rw [headA_eq]; rfl, ⟨h.it.fifo hC.it f.it k.it⟩⟩
theorem pp_head (h : Aside (Pp A w0 own W p rt rw q t s d C)) :
    Calls Tryd.prog 18 #[.pointer (some ⟨p, 0, none⟩)] W fun e w' => e = .returned (.tuple #[.agg #[.string (hT q), .int .i64 (headV q).1], .int .i64 (headV q).2, .bool (!q.isEmpty)]) ∧ Aside (Pp A w0 own w' p rt rw q t s d C) := by
  refine (Fpair.head_o h.it.f).mono ?_
  rintro e w' ⟨rfl, k⟩
  exact ⟨by rw [headA_eq]; rfl, ⟨h.it.quiet k.it⟩⟩
theorem pp_made (h : Aside (Pp A w0 own W p rt rw q t s d C)) (n : Int) (hn : Aside (-9223372036854775808 ≤ n ∧ n ≤ 9223372036854775807)) :
    Calls Tryd.prog 11 #[.int .i64 n] W fun e w' => e = .returned (.agg #[.string (Fpair.txt n), .int .i64 n]) ∧ Aside (Pp A w0 own w' p rt rw q t s d C) := by
  refine (Fpair.made_ok h.it.pow n hn.it).mono ?_
  rintro e w' ⟨rfl, k⟩
  exact ⟨rfl, ⟨h.it.quiet k.it⟩⟩
theorem pp_remove (h : Aside (Pp A w0 own W p rt rw q t s d C)) (hC : Aside (∀ x ∈ C, x.1 ≠ 1)) (ht : Aside (t ≤ 4398046511103)) {i ob : Nat} {k0 k1 k2 ws : Value} (hm : Aside ((i, ob, 41, [k0, k1, k2, ws]) ∈ C)) (ns : List Int) (hw : Aside (ReadsOff Nowhere w0 ws (iv ns))) (hwn : Aside (ns.length ≤ maxLen)) :
    Calls Tryd.prog 14 #[.pointer (some ⟨p, 0, none⟩), .func (.func 15) #[] #[.pointer (some ⟨ob, 0, none⟩)]] W fun e w' => ∃ own', e = .returned (.int .i64 (goneN ns q)) ∧ Aside (Pp A w0 own' w' p rt rw (restQ ns q) t s d C) := by
  obtain ⟨v, first, gone, h1, h2, h3, h4⟩ := h.it.f
  have ho := h.it.c _ hm.it
  have hwr : ReadsOff Nowhere W ws (iv ns) := hw.it.below h.it.g.bel
  refine (Fpair.remove_in h1 h2.1 (by have := h2.2; have := ht.it; simp only [Fpair.by']; omega) (.pointer (some ⟨ob, 0, none⟩)) (outB ns) (fun _ W' => Keeps (fun k => W.heap.size ≤ k) W W') (fun _ => False)
    (fun j x W' _ hR => ?_) (fun j W' W'' hR hk => hR.trans hk) (fun _ _ x => x) (fun _ x => x.elim) (Keeps.refl _ _)).mono ?_
  · refine (Fpair.asks_ok ob ws ns k0 k1 k2 x.1 (ho.1.later hR (fun e => by have := ho.1.lt; omega)) ?_ hwn.it).mono ?_
    · exact ((hwr.mono (S' := fun k => W.heap.size ≤ k) (fun k hk hlt => by omega)).later hR).mono (fun _ x _ => x.elim)
    · rintro e w' ⟨rfl, k⟩
      exact ⟨rfl, ⟨hR.trans k.it.any⟩, ⟨k.it.any⟩⟩
  · rintro e w' ⟨rfl, v', f', g', a, b, c, dd, _⟩
    have kk : Keeps (fun k => own k = 1) W w' := dd.it.mono (fun k e _ => by
      rcases e with (rfl | e) | e
      · exact h3
      · exact h4 k e
      · exact e.elim)
    refine ⟨_, rfl, ⟨h.it.fifo hC.it (Fpair.mk_o h1 h3 h4 a.it ⟨b.it.1, ?_⟩ c.it) kk⟩⟩
    have l1 : (q.filter (fun x => !outB ns x)).length ≤ q.length := List.length_filter_le _ _
    have := b.it.2
    have := h2.2
    show f' + (q.filter (fun x => !outB ns x)).length ≤ t
    omega
theorem Pp.upt (h : Pp A w0 own W p rt rw q t s d C) : Pp A w0 own W p rt rw q (t + 1) s d C := ⟨h.g, h.st, h.pw, h.f.up, h.rd, h.ro, h.c⟩
theorem Pp.len (h : Pp A w0 own W p rt rw q t s d C) : q.length ≤ t ∧ sumW q ≤ rw ∧ rw ≤ 9223372036854775807 := by
  obtain ⟨v, f, g, h1, h2, _⟩ := h.f
  exact ⟨by have := h2.2; omega, h1.weight, h1.rw63⟩
/-- the box of the document's queue takes the next one -/
theorem Pp.next {wb : Nat} {T : TypeId} {y0 y1 y2 c0 c1 c2 : Value} {CC : List Bx} (h : Pp A w0 own W p rt rw q t s d C) (m : (9, wb, T, [c0, c1, c2]) ∈ C) (hs : ∀ x ∈ CC, x ∈ C) (h6 : ∀ x ∈ CC, x.1 = 6) :
    Pp A w0 own (((W.setCell ⟨wb, 0, none⟩ y0).setCell ⟨wb, 1, none⟩ y1).setCell ⟨wb, 2, none⟩ y2) p rt rw q t s d ((9, wb, T, [y0, y1, y2]) :: CC) := by
  have h9 : Pp A w0 own W p rt rw q t s d ((9, wb, T, [c0, c1, c2]) :: CC) := h.sub (fun x hx => by
    rcases List.mem_cons.1 hx with rfl | hx
    · exact m
    · exact hs x hx)
  have h3 := set3 (y0 := y0) (y1 := y1) (y2 := y2) (h9.c _ (List.mem_cons_self ..)).1
  exact h9.write (fun x hx => by rw [h6 x hx]; decide) (by decide) h3.1 h3.2
/-- every thing's number is one -/
def BQ (q : Things) : Prop := ∀ x ∈ q, -9223372036854775808 ≤ x.1 ∧ x.1 ≤ 9223372036854775807
theorem BQ.put {v n : Int} (h : BQ q) (hv : -9223372036854775808 ≤ v ∧ v ≤ 9223372036854775807) : BQ (putQ rt rw q v n) := by
  unfold putQ
  split
  · intro x hx
    rcases List.mem_append.1 hx with hx | hx
    · exact h x hx
    · rw [List.mem_singleton.1 hx]; exact hv
  · exact h
theorem BQ.tail (h : BQ q) : BQ q.tail := fun x hx => h x (List.mem_of_mem_tail hx)
theorem BQ.rest (h : BQ q) (ns : List Int) : BQ (restQ ns q) := fun x hx => h x (List.mem_filter.1 hx).1
theorem BQ.head (h : BQ q) : -9223372036854775808 ≤ (headV q).1 ∧ (headV q).1 ≤ 9223372036854775807 := by
  cases q with
  | nil => exact ⟨by decide, by decide⟩
  | cons x q => exact h x (List.mem_cons_self ..)
end Go.Proofs.YtnljgklmaljfjaaDoor
