/-
  culvertlaw17.PingsOwed: what lies in memory
-/
import Derived.Test.YtnmpnajmhfonhaaDoorPgD
import Derived.Test.YtnmpnajmhfonhaaDoorOpenPg
import Derived.Deep.CutBlock
import Derived.Deep.DeepCutAuto
namespace Go.Proofs.YtnmpnajmhfonhaaDoor
open Go.RowKit

variable {A : Nat → Addr} {w w' W w0 : World} {own own' : Nat → Nat} {i r p q : Nat} {x vt : Value} {m mp mq : Pm} {L tk : List Nat} {I : Nat → Prop}

/-- two Pings (owners 1, 2) and the tokens that were taken (owner 3) -/
structure Oq (A : Nat → Addr) (w0 : World) (own : Nat → Nat) (W : World) (p q : Nat) (mp mq : Pm) (vt : Value) (tk : List Nat) : Prop where
  g : OnG A w0 own W
  p : PgV own 1 1 W (ptr p) mp
  q : PgV own 2 2 W (ptr q) mq
  t : W.ownsRow 0 37 1 vt tk.length (tk.map e32)
  o : ∀ k, vt.ownBlock = some k → own k = 3
theorem Oq.sn (h : Oq A w0 own W p q mp mq vt tk) (s : Sn I own W own' w') (h0 : ¬ I 0) (h1 : ¬ I 1) (h2 : ¬ I 2) (h3 : ¬ I 3) : Oq A w0 own' w' p q mp mq vt tk :=
  ⟨h.g.sn s h0, h.p.sn s h1 h1, h.q.sn s h2 h2, owns_later h.t s.keeps (fun k hk e => h3 (by rw [← h.o k hk]; exact e)), fun k hk => (s.agree k (owns_lt h.t k hk)).trans (h.o k hk)⟩
theorem Oq.quiet (h : Oq A w0 own W p q mp mq vt tk) (hk : Keeps Nowhere W w') : Oq A w0 own w' p q mp mq vt tk := h.sn (I := fun _ => False) (Sn.same hk) (fun x => x) (fun x => x) (fun x => x) (fun x => x)
theorem Oq.atP (h : Oq A w0 own W p q mp mq vt tk) (s : Sn (fun k => k = 1) own W own' w') {m' : Pm} (hp : PgV own' 1 1 w' (ptr p) m') : Oq A w0 own' w' p q m' mq vt tk :=
  ⟨h.g.sn s (by decide), hp, h.q.sn s (by decide) (by decide), owns_later h.t s.keeps (fun k hk e => by have := (h.o k hk).symm.trans e; omega), fun k hk => (s.agree k (owns_lt h.t k hk)).trans (h.o k hk)⟩
theorem Oq.atQ (h : Oq A w0 own W p q mp mq vt tk) (s : Sn (fun k => k = 2) own W own' w') {m' : Pm} (hq : PgV own' 2 2 w' (ptr q) m') : Oq A w0 own' w' p q mp m' vt tk :=
  ⟨h.g.sn s (by decide), h.p.sn s (by decide) (by decide), hq, owns_later h.t s.keeps (fun k hk e => by have := (h.o k hk).symm.trans e; omega), fun k hk => (s.agree k (owns_lt h.t k hk)).trans (h.o k hk)⟩
theorem oq_ask (h : Aside (Oq A w0 own W p q mp mq vt tk)) : Calls Tryd.prog 17 #[ptr q] W fun e w' => ∃ u1 u2, e = .returned (.tuple #[.int .u32 u1, u2]) ∧ Aside (Oq A w0 own w' p q mp mq.ask vt tk) := by
  refine (pask h.it.q h.it.g.sents).mono ?_
  rintro e w' ⟨ev, rfl, C, X⟩
  exact ⟨_, ev, rfl, ⟨h.it.atQ X.it.2 X.it.1⟩⟩
theorem oq_heard (h : Aside (Oq A w0 own W p q mp mq vt tk)) (t : Nat) (ht : t ≤ 4294967295) (hb : (mq.an.length + 1) * 4 ≤ 140737488355328) : Calls Tryd.prog 18 #[ptr q, .int .u32 (t : Nat)] W fun e w' => ∃ ev own', e = .returned ev ∧ Aside (Oq A w0 own' w' p q mp (mq.heard t) vt tk) := by
  refine (pheard h.it.q t ht hb h.it.g.sents).mono ?_
  rintro e w' ⟨ev, rfl, C, X⟩
  obtain ⟨own', t', s'⟩ := X.it
  exact ⟨ev, own', rfl, ⟨h.it.atQ (s'.mono (fun k e => by rcases e with e | e <;> exact e)) t'⟩⟩
theorem oq_ans (h : Aside (Oq A w0 own W p q mp mq vt tk)) : Calls Tryd.prog 16 #[ptr q] W fun e w' => ∃ u, e = .returned u ∧ Aside (Oq A w0 own w' p q mp mq.told vt tk) := by
  refine (panswered h.it.q).mono ?_
  rintro e w' ⟨a, c, rfl, R, _, X⟩
  exact ⟨_, rfl, ⟨h.it.atQ X.it.2 (X.it.1 2)⟩⟩
theorem oq_replP (h : Aside (Oq A w0 own W p q mp mq vt tk)) : Calls Tryd.prog 19 #[ptr p] W fun e w' => ∃ own', e = .returned (.tuple #[.int .u32 (hd0 mp.ow : Nat), .bool (some0 mp.ow)]) ∧ Aside (Oq A w0 own' w' p q mp.repl mq vt tk) := by
  refine (prepl h.it.p).mono ?_
  rintro e w' ⟨rfl, X⟩
  obtain ⟨own', t', s'⟩ := X.it
  exact ⟨own', rfl, ⟨h.it.atP s' t'⟩⟩
theorem oq_replQ (h : Aside (Oq A w0 own W p q mp mq vt tk)) : Calls Tryd.prog 19 #[ptr q] W fun e w' => ∃ own', e = .returned (.tuple #[.int .u32 (hd0 mq.ow : Nat), .bool (some0 mq.ow)]) ∧ Aside (Oq A w0 own' w' p q mp mq.repl vt tk) := by
  refine (prepl h.it.q).mono ?_
  rintro e w' ⟨rfl, X⟩
  obtain ⟨own', t', s'⟩ := X.it
  exact ⟨own', rfl, ⟨h.it.atQ s' t'⟩⟩
theorem oq_askedP (h : Aside (Oq A w0 own W p q mp mq vt tk)) (t : Nat) : Calls Tryd.prog 20 #[ptr p, .int .u32 (t : Nat)] W fun e w' => ∃ ev own', e = .returned ev ∧ Hid (Coded A ev mp.askedC) ∧ Aside (Oq A w0 own' w' p q (mp.asked t) mq vt tk) := by
  refine (pasked h.it.p t h.it.g.sents).mono ?_
  rintro e w' ⟨ev, rfl, C, X⟩
  obtain ⟨own', t', s'⟩ := X.it
  exact ⟨ev, own', rfl, C, ⟨h.it.atP s' t'⟩⟩
theorem oq_askedQ (h : Aside (Oq A w0 own W p q mp mq vt tk)) (t : Nat) : Calls Tryd.prog 20 #[ptr q, .int .u32 (t : Nat)] W fun e w' => ∃ ev own', e = .returned ev ∧ Hid (Coded A ev mq.askedC) ∧ Aside (Oq A w0 own' w' p q mp (mq.asked t) vt tk) := by
  refine (pasked h.it.q t h.it.g.sents).mono ?_
  rintro e w' ⟨ev, rfl, C, X⟩
  obtain ⟨own', t', s'⟩ := X.it
  exact ⟨ev, own', rfl, C, ⟨h.it.atQ s' t'⟩⟩
theorem oq_owedP (h : Oq A w0 own W p q mp mq vt tk) (W' : World) (k : Aside (Keeps Nowhere W W')) : Calls Tryd.prog 10 #[ptr p] W' fun e w' => e = .returned (.int .i64 mp.ow.length) ∧ Aside (Keeps Nowhere W w') := by
  refine (powed (h.quiet k.it).p).mono ?_
  rintro e w' ⟨rfl, K⟩
  exact ⟨rfl, ⟨k.it.trans K.it⟩⟩
theorem oq_owedQ (h : Oq A w0 own W p q mp mq vt tk) (W' : World) (k : Aside (Keeps Nowhere W W')) : Calls Tryd.prog 10 #[ptr q] W' fun e w' => e = .returned (.int .i64 mq.ow.length) ∧ Aside (Keeps Nowhere W w') := by
  refine (powed (h.quiet k.it).q).mono ?_
  rintro e w' ⟨rfl, K⟩
  exact ⟨rfl, ⟨k.it.trans K.it⟩⟩
theorem oq_waitP (h : Oq A w0 own W p q mp mq vt tk) (W' : World) (k : Aside (Keeps Nowhere W W')) : Calls Tryd.prog 11 #[ptr p] W' fun e w' => ∃ (a : Option Addr) (c : Nat), e = .returned (.slice a mp.L.length c) ∧ Aside (Keeps Nowhere W w') := by
  refine (pwait (h.quiet k.it).p).mono ?_
  rintro e w' ⟨a, c, rfl, _, K⟩
  exact ⟨a, c, rfl, ⟨k.it.trans K.it⟩⟩
/-- one more token was taken -/
theorem Oq.app (h : Oq A w0 own W p q mp mq vt tk) (t : Nat) (hb : (tk.length + 1) * 4 ≤ 140737488355328) : ∃ (a : Option Addr) (l c : Nat) (w' : World) (own' : Nat → Nat), (∀ ty, (Builtin.append_ #[29, 29] ty #[vt, .slice (some ⟨W.heap.size, 0, none⟩) 1 1]).run Tryd.prog (W.alloc (.cells #[e32 t] 37)) = .ok (.slice a l c) w') ∧ Aside (Oq A w0 own' w' p q mp mq (.slice a l c) (tk ++ [t])) := by
  have K1 : Keeps Nowhere W (W.alloc (.cells #[e32 t] 37)) := (Keeps.refl _ _).alloc _
  obtain ⟨a, l, c, w', run, o', K2, B⟩ := app32 (ns := tk) (ms := [t]) (W.alloc (.cells #[e32 t] 37)) 0 (owns_later h.t K1 (fun _ _ x => x)) (reads_new1 W t) hb (Nat.zero_le _)
  have K : Keeps (fun b => vt.ownBlock = some b) W w' := (K1.mono (fun _ x _ => x.elim)).trans K2
  have s : Sn (fun k => k = 3) own W (give own W.heap.size 3) w' := ⟨fun k hlt => give_old hlt, K.mono (fun k e _ => h.o k e)⟩
  refine ⟨a, l, c, w', give own W.heap.size 3, run, ⟨h.g.sn s (by decide), h.p.sn s (by decide) (by decide), h.q.sn s (by decide) (by decide), o', fun k hk => ?_⟩⟩
  rcases B k hk with e | e
  · exact (give_old (owns_lt h.t k e)).trans (h.o k e)
  · exact give_new (Nat.le_trans K1.size e)
theorem Oq.cell (h : Oq A w0 own W p q mp mq vt tk) {j y : Nat} (hj : tk[j]? = some y) : ∃ g c, vt = .slice (some ⟨g, 0, none⟩) tk.length c ∧ tk.length ≤ c ∧ W.cell? ⟨g, j, none⟩ = some (.int .u32 (y : Nat)) := by
  rcases h.t.2 with ⟨_, h0⟩ | ⟨g, cap, cur, rfl, _, _, h1, _⟩
  · rw [List.eq_nil_of_length_eq_zero h0] at hj
    simp at hj
  · refine ⟨g, cap, rfl, h1, ?_⟩
    have := h.t.cells rfl j (e32 y) (by rw [List.getElem?_map, hj]; rfl)
    rwa [add_none, Nat.zero_add] at this
theorem Oq.shape (h : Oq A w0 own W p q mp mq vt tk) : ∃ a c, vt = .slice a tk.length c := by
  rcases h.t.2 with ⟨rfl, h0⟩ | ⟨g, cap, cur, rfl, _⟩
  · exact ⟨none, 0, by rw [h0]⟩
  · exact ⟨_, cap, rfl⟩

/-- what both owe is what was taken and not told -/
structure Ob (n at' : Nat) (tk : List Nat) (mp mq : Pm) : Prop where
  np : mp.most = n
  nq : mq.most = n
  op : mp.ow = tk.drop at'
  oq : mq.ow = tk.drop at'
  le : at' ≤ tk.length
  l0 : mp.L = []
  n1 : 1 ≤ n
variable {n at' : Nat}
theorem Ob.askQ (h : Ob n at' tk mp mq) : Ob n at' tk mp mq.ask := ⟨h.np, by rw [Pm.most_ask]; exact h.nq, h.op, by unfold Pm.ask; split <;> exact h.oq, h.le, h.l0, h.n1⟩
theorem Ob.heardQ (h : Ob n at' tk mp mq) (t : Nat) : Ob n at' tk mp (mq.heard t) := ⟨h.np, by rw [Pm.most_heard]; exact h.nq, h.op, by unfold Pm.heard; split <;> exact h.oq, h.le, h.l0, h.n1⟩
theorem Ob.toldQ (h : Ob n at' tk mp mq) : Ob n at' tk mp mq.told := ⟨h.np, h.nq, h.op, h.oq, h.le, h.l0, h.n1⟩
theorem drop_tail (l : List Nat) (j : Nat) : (l.drop j).tail = l.drop (j + 1) := by rw [List.tail_drop]
theorem Ob.repl (h : Ob n at' tk mp mq) (hlt : at' < tk.length) : Ob n (at' + 1) tk mp.repl mq.repl :=
  ⟨h.np, h.nq, by show mp.ow.tail = _; rw [h.op, drop_tail], by show mq.ow.tail = _; rw [h.oq, drop_tail], hlt, h.l0, h.n1⟩
theorem Ob.repl0 (h : Ob n at' tk mp mq) (he : at' = tk.length) : Ob n at' tk mp.repl mq.repl := by
  have e : tk.drop at' = [] := by rw [List.drop_eq_nil_iff]; omega
  exact ⟨h.np, h.nq, by show mp.ow.tail = _; rw [h.op, e]; rfl, by show mq.ow.tail = _; rw [h.oq, e]; rfl, h.le, h.l0, h.n1⟩
theorem Ob.lenP (h : Ob n at' tk mp mq) : mp.ow.length = tk.length - at' := by rw [h.op, List.length_drop]
theorem Ob.lenQ (h : Ob n at' tk mp mq) : mq.ow.length = tk.length - at' := by rw [h.oq, List.length_drop]
theorem Ob.full (h : Ob n at' tk mp mq) (hf : n ≤ tk.length - at') (t : Nat) : mp.askedC = 21 ∧ mq.askedC = 21 ∧ mp.asked t = mp ∧ mq.asked t = mq := by
  have h1 := h.lenP
  have h2 := h.lenQ
  have := h.n1
  have e1 := h.np
  have e2 := h.nq
  unfold Pm.askedC Pm.asked
  have c1 : ¬ mp.most = 0 := by omega
  have c2 : ¬ mq.most = 0 := by omega
  have c3 : mp.most ≤ mp.ow.length := by omega
  have c4 : mq.most ≤ mq.ow.length := by omega
  rw [if_neg c1, if_neg c2, if_pos c3, if_pos c4, if_pos c3, if_pos c4]
  exact ⟨rfl, rfl, rfl, rfl⟩
theorem Ob.free (h : Ob n at' tk mp mq) (hf : ¬ n ≤ tk.length - at') (t : Nat) : mp.askedC = 0 ∧ mq.askedC = 0 ∧ Ob n at' (tk ++ [t]) (mp.asked t) (mq.asked t) := by
  have h1 := h.lenP
  have h2 := h.lenQ
  have := h.n1
  have e1 := h.np
  have e2 := h.nq
  unfold Pm.askedC Pm.asked
  have c1 : ¬ mp.most = 0 := by omega
  have c2 : ¬ mq.most = 0 := by omega
  have c3 : ¬ mp.most ≤ mp.ow.length := by omega
  have c4 : ¬ mq.most ≤ mq.ow.length := by omega
  rw [if_neg c1, if_neg c2, if_neg c3, if_neg c4, if_neg c3, if_neg c4]
  refine ⟨rfl, rfl, h.np, h.nq, ?_, ?_, by have := h.le; simp; omega, h.l0, h.n1⟩
  · show mp.ow ++ [t] = _
    rw [h.op, List.drop_append_of_le_length h.le]
  · show mq.ow ++ [t] = _
    rw [h.oq, List.drop_append_of_le_length h.le]
theorem Ob.head (h : Ob n at' tk mp mq) {y : Nat} (hy : tk[at']? = some y) : hd0 mp.ow = y ∧ hd0 mq.ow = y ∧ some0 mp.ow = true ∧ some0 mq.ow = true := by
  have e : ∃ l, tk.drop at' = y :: l := by
    obtain ⟨hl, rfl⟩ := List.getElem?_eq_some_iff.1 hy
    exact ⟨_, List.drop_eq_getElem_cons hl⟩
  obtain ⟨l, e⟩ := e
  rw [h.op, h.oq, e]
  exact ⟨rfl, rfl, rfl, rfl⟩
theorem Ob.empty (h : Ob n at' tk mp mq) (he : at' = tk.length) : hd0 mp.ow = 0 ∧ hd0 mq.ow = 0 ∧ some0 mp.ow = false ∧ some0 mq.ow = false := by
  have e : tk.drop at' = [] := by rw [List.drop_eq_nil_iff]; omega
  rw [h.op, h.oq, e]
  exact ⟨rfl, rfl, rfl, rfl⟩
theorem an_ask (m : Pm) : m.ask.an = m.an := by unfold Pm.ask; split <;> rfl
theorem an_heard (m : Pm) (t : Nat) : (m.heard t).an.length ≤ m.an.length + 1 := by unfold Pm.heard; split <;> simp
theorem an_asked (m : Pm) (t : Nat) : (m.asked t).an = m.an := by unfold Pm.asked; split <;> rfl
end Go.Proofs.YtnmpnajmhfonhaaDoor
