/-
  culvertlaw17.PingsOnce: the book of the tokens; what lies in memory
-/
import Derived.Test.YtnmpnajmhfonhaaDoorPgD
import Derived.Test.YtnmpnajmhfonhaaDoorOpenPg
import Derived.Deep.CutBlock
import Derived.Deep.DeepCutAuto
namespace Go.Proofs.YtnmpnajmhfonhaaDoor
open Go.RowKit

variable {A : Nat → Addr} {w w' W w0 : World} {own own' : Nat → Nat} {i r k : Nat} {x v sv va vh vt : Value} {m : Pm} {L ms La Lh Lt : List Nat} {I : Nat → Prop}

/-- a row of numbers of owner k -/
structure RowU (own : Nat → Nat) (k : Nat) (W : World) (v : Value) (L : List Nat) : Prop where
  r : W.ownsRow 0 37 1 v L.length (L.map e32)
  o : ∀ b, v.ownBlock = some b → own b = k
theorem RowU.sn (h : RowU own k W v L) (s : Sn I own W own' w') (hk : ¬ I k) : RowU own' k w' v L :=
  ⟨owns_later h.r s.keeps (fun b hb e => hk (by rw [← h.o b hb]; exact e)), fun b hb => (s.agree b (owns_lt h.r b hb)).trans (h.o b hb)⟩
theorem RowU.nil (own : Nat → Nat) (k : Nat) (W : World) : RowU own k W (.slice none 0 0) [] := ⟨World.ownsRow_nil _ _ _ _, fun b e => by cases e⟩
theorem RowU.app (h : RowU own k W v L) (hr : ReadsK 1 W sv ms.length (ms.map e32)) (hb : (L.length + ms.length) * 4 ≤ 140737488355328) : ∃ (a : Option Addr) (c : Nat) (w' : World) (own' : Nat → Nat), (∀ ty, (Builtin.append_ #[29, 29] ty #[v, sv]).run Tryd.prog W = .ok (.slice a (L.length + ms.length) c) w') ∧ RowU own' k w' (.slice a (L.length + ms.length) c) (L ++ ms) ∧ Sn (fun j => j = k) own W own' w' := by
  obtain ⟨a, l, c, w', run, o', K, B⟩ := app32 (ns := L) (ms := ms) W 0 h.r hr hb (Nat.zero_le _)
  have hl : l = L.length + ms.length := by
    rcases o'.2 with ⟨e, h0⟩ | ⟨g, cap, cur, e, _⟩
    · injection e with _ e1; rw [List.length_append] at h0; omega
    · injection e with _ e1; rw [e1, List.length_append]
  subst hl
  refine ⟨a, c, w', give own W.heap.size k, run, ⟨o', fun b hb' => ?_⟩, ⟨fun b hlt => give_old hlt, K.mono (fun b e _ => h.o b e)⟩⟩
  rcases B b hb' with e | e
  · exact (give_old (owns_lt h.r b e)).trans (h.o b e)
  · exact give_new e
theorem RowU.reads (h : RowU own k W v L) : ReadsK 1 W v L.length (L.map e32) := owns_readsK h.r
theorem RowU.shape (h : RowU own k W v L) : ∃ a c, v = .slice a L.length c := by
  obtain ⟨a, c, e, _⟩ := ReadsK.at1 h.reads
  exact ⟨a, c, e⟩

/-- a Pings (owner 1), what was asked (2), heard (3) and told (4) -/
structure On (A : Nat → Addr) (w0 : World) (own : Nat → Nat) (W : World) (x : Value) (m : Pm) (va : Value) (La : List Nat) (vh : Value) (Lh : List Nat) (vt : Value) (Lt : List Nat) : Prop where
  g : OnG A w0 own W
  p : PgV own 1 1 W x m
  a : RowU own 2 W va La
  h : RowU own 3 W vh Lh
  t : RowU own 4 W vt Lt
theorem On.quiet (h : On A w0 own W x m va La vh Lh vt Lt) (hk : Keeps Nowhere W w') : On A w0 own w' x m va La vh Lh vt Lt :=
  have s : Sn (fun _ => False) own W own w' := Sn.same hk
  ⟨h.g.sn s (fun x => x), h.p.sn s (fun x => x) (fun x => x), h.a.sn s (fun x => x), h.h.sn s (fun x => x), h.t.sn s (fun x => x)⟩
theorem On.step (h : On A w0 own W x m va La vh Lh vt Lt) (hk : Keeps Nowhere W w') (j : Nat) : On A w0 (give own W.heap.size j) w' x m va La vh Lh vt Lt :=
  have s : Sn (fun _ => False) own W (give own W.heap.size j) w' := Sn.quiet hk j
  ⟨h.g.sn s (fun x => x), h.p.sn s (fun x => x) (fun x => x), h.a.sn s (fun x => x), h.h.sn s (fun x => x), h.t.sn s (fun x => x)⟩
theorem On.prog (h : On A w0 own W x m va La vh Lh vt Lt) {m' : Pm} (s : Sn (fun k => k = 1) own W own' w') (hp : PgV own' 1 1 w' x m') : On A w0 own' w' x m' va La vh Lh vt Lt :=
  ⟨h.g.sn s (by decide), hp, h.a.sn s (by decide), h.h.sn s (by decide), h.t.sn s (by decide)⟩
theorem on_ask (h : Aside (On A w0 own W x m va La vh Lh vt Lt)) : Calls Tryd.prog 17 #[x] W fun e w' => ∃ ev, e = .returned (.tuple #[.int .u32 (m.askT : Nat), ev]) ∧ Hid (Coded A ev m.askC) ∧ Aside (On A w0 own w' x m.ask va La vh Lh vt Lt) := by
  refine (pask h.it.p h.it.g.sents).mono ?_
  rintro e w' ⟨ev, rfl, C, X⟩
  exact ⟨ev, rfl, C, ⟨h.it.prog X.it.2 X.it.1⟩⟩
theorem on_heard (h : Aside (On A w0 own W x m va La vh Lh vt Lt)) (t : Nat) (ht : t ≤ 4294967295) (hb : (m.an.length + 1) * 4 ≤ 140737488355328) : Calls Tryd.prog 18 #[x, .int .u32 (t : Nat)] W fun e w' => ∃ ev own', e = .returned ev ∧ Hid (Coded A ev (m.heardC t)) ∧ Aside (On A w0 own' w' x (m.heard t) va La vh Lh vt Lt) ∧ Aside (Sn (fun k => k = 1) own W own' w') := by
  refine (pheard h.it.p t ht hb h.it.g.sents).mono ?_
  rintro e w' ⟨ev, rfl, C, X⟩
  obtain ⟨own', t', s'⟩ := X.it
  have s1 := s'.mono (J := fun k => k = 1) (fun k e => by rcases e with e | e <;> exact e)
  exact ⟨ev, own', rfl, C, ⟨h.it.prog s1 t'⟩, ⟨s1⟩⟩
theorem on_ans (h : Aside (On A w0 own W x m va La vh Lh vt Lt)) : Calls Tryd.prog 16 #[x] W fun e w' => ∃ (a : Option Addr) (c : Nat), e = .returned (.slice a m.an.length c) ∧ Aside (ReadsK 1 w' (.slice a m.an.length c) m.an.length (m.an.map e32)) ∧ Aside (On A w0 own w' x m.told va La vh Lh vt Lt) := by
  refine (panswered h.it.p).mono ?_
  rintro e w' ⟨a, c, rfl, R, _, X⟩
  exact ⟨a, c, rfl, ⟨owns_readsK R.it⟩, ⟨h.it.prog X.it.2 (X.it.1 1)⟩⟩
theorem on_wait (h : On A w0 own W x m va La vh Lh vt Lt) (W' : World) (k : Aside (Keeps Nowhere W W')) : Calls Tryd.prog 11 #[x] W' fun e w' => ∃ (a : Option Addr) (c : Nat), e = .returned (.slice a m.L.length c) ∧ Aside (ReadsK 1 w' (.slice a m.L.length c) m.L.length ((ks m.L).map e32)) ∧ Aside (Keeps Nowhere W w') := by
  refine (pwait (h.quiet k.it).p).mono ?_
  rintro e w' ⟨a, c, rfl, R, K⟩
  exact ⟨a, c, rfl, ⟨owns_readsK R.it⟩, ⟨k.it.trans K.it⟩⟩
theorem On.appA (h : On A w0 own W x m va La vh Lh vt Lt) (t : Nat) (hb : (La.length + 1) * 4 ≤ 140737488355328) : ∃ (a : Option Addr) (c : Nat) (w' : World) (own' : Nat → Nat), (∀ ty, (Builtin.append_ #[29, 29] ty #[va, .slice (some ⟨W.heap.size, 0, none⟩) 1 1]).run Tryd.prog (W.alloc (.cells #[e32 t] 37)) = .ok (.slice a (La.length + 1) c) w') ∧ Aside (On A w0 own' w' x m (.slice a (La.length + 1) c) (La ++ [t]) vh Lh vt Lt) := by
  have h1 := h.quiet ((Keeps.refl _ _).alloc (.cells #[e32 t] 37))
  obtain ⟨a, c, w', own', run, R, s⟩ := h1.a.app (ms := [t]) (reads_new1 W t) hb
  exact ⟨a, c, w', own', run, ⟨h1.g.sn s (by decide), h1.p.sn s (by decide) (by decide), R, h1.h.sn s (by decide), h1.t.sn s (by decide)⟩⟩
theorem On.appH (h : On A w0 own W x m va La vh Lh vt Lt) (t : Nat) (hb : (Lh.length + 1) * 4 ≤ 140737488355328) : ∃ (a : Option Addr) (c : Nat) (w' : World) (own' : Nat → Nat), (∀ ty, (Builtin.append_ #[29, 29] ty #[vh, .slice (some ⟨W.heap.size, 0, none⟩) 1 1]).run Tryd.prog (W.alloc (.cells #[e32 t] 37)) = .ok (.slice a (Lh.length + 1) c) w') ∧ Aside (On A w0 own' w' x m va La (.slice a (Lh.length + 1) c) (Lh ++ [t]) vt Lt) := by
  have h1 := h.quiet ((Keeps.refl _ _).alloc (.cells #[e32 t] 37))
  obtain ⟨a, c, w', own', run, R, s⟩ := h1.h.app (ms := [t]) (reads_new1 W t) hb
  exact ⟨a, c, w', own', run, ⟨h1.g.sn s (by decide), h1.p.sn s (by decide) (by decide), h1.a.sn s (by decide), R, h1.t.sn s (by decide)⟩⟩
theorem On.appT (h : On A w0 own W x m va La vh Lh vt Lt) (hr : ReadsK 1 W sv ms.length (ms.map e32)) (hb : (Lt.length + ms.length) * 4 ≤ 140737488355328) : ∃ (a : Option Addr) (c : Nat) (w' : World) (own' : Nat → Nat), (∀ ty, (Builtin.append_ #[29, 29] ty #[vt, sv]).run Tryd.prog W = .ok (.slice a (Lt.length + ms.length) c) w') ∧ Aside (On A w0 own' w' x m va La vh Lh (.slice a (Lt.length + ms.length) c) (Lt ++ ms)) := by
  obtain ⟨a, c, w', own', run, R, s⟩ := h.t.app hr hb
  exact ⟨a, c, w', own', run, ⟨h.g.sn s (by decide), h.p.sn s (by decide) (by decide), h.a.sn s (by decide), h.h.sn s (by decide), R⟩⟩

/-- the book: all that was asked, of it what was heard; what is told and not yet told is what was heard -/
structure Bk (n : Nat) (m : Pm) (La Lh Lt : List Nat) : Prop where
  nn : m.most = n
  n1 : 1 ≤ n
  f : m.Fr
  a : La = (List.range m.last).map (· + 1)
  l : ks m.L = La.filter (fun x => !Lh.contains x)
  h : Lh.Nodup ∧ ∀ x ∈ Lh, x ∈ La
  t : Lt ++ m.an = Lh
variable {n : Nat}
theorem Bk.lenA (b : Bk n m La Lh Lt) : La.length = m.last := by rw [b.a]; simp
theorem Bk.nodup (b : Bk n m La Lh Lt) : La.Nodup := by
  rw [b.a, List.Nodup, List.pairwise_map]
  exact List.nodup_range.imp (fun h e => h (by omega))
theorem len_parts (p : Nat → Bool) (l : List Nat) : (l.filter p).length + (l.filter (fun x => !p x)).length = l.length := by
  induction l with
  | nil => rfl
  | cons x l ih =>
    cases h : p x with
    | true => rw [List.filter_cons_of_pos h, List.filter_cons_of_neg (by simp [h])]; simp only [List.length_cons]; omega
    | false => rw [List.filter_cons_of_neg (by simp [h]), List.filter_cons_of_pos (by simp [h])]; simp only [List.length_cons]; omega
theorem count_split (La Lh : List Nat) (hn : La.Nodup) (hh : Lh.Nodup) (hs : ∀ x ∈ Lh, x ∈ La) : (La.filter (fun x => !Lh.contains x)).length + Lh.length = La.length := by
  have h1 : (La.filter (fun x => Lh.contains x)).Perm Lh := by
    refine (List.perm_ext_iff_of_nodup (hn.filter _) hh).2 (fun x => ?_)
    simp only [List.mem_filter, List.contains_iff_mem]
    exact ⟨fun h => h.2, fun h => ⟨hs x h, h⟩⟩
  have h2 := len_parts (fun x => Lh.contains x) La
  rw [h1.length_eq] at h2
  omega
theorem Bk.len (b : Bk n m La Lh Lt) : m.L.length + Lh.length = La.length := by
  rw [← len_ks, b.l]
  exact count_split La Lh b.nodup b.h.1 b.h.2
theorem Bk.start {n : Nat} (h1 : 1 ≤ n) (h2 : n ≤ 1024) : Bk n (Pm.new n) [] [] [] := ⟨rfl, h1, ⟨Pm.new_ok h2, fun x hx => by cases hx⟩, rfl, rfl, ⟨List.nodup_nil, fun x hx => by cases hx⟩, rfl⟩
theorem Bk.full (b : Bk n m La Lh Lt) (hx : n ≤ m.L.length) : m.askC = 31 ∧ m.ask = m := by
  have := b.nn
  have := b.n1
  unfold Pm.askC Pm.ask
  rw [if_neg (by omega), if_pos (by omega), if_pos (by omega)]
  exact ⟨rfl, rfl⟩
theorem Bk.ask (b : Bk n m La Lh Lt) (hb : m.last < 4294967295) (hx : ¬ n ≤ m.L.length) : m.askC = 0 ∧ m.askT = m.last + 1 ∧ Bk n m.ask (La ++ [m.last + 1]) Lh Lt := by
  have e1 := b.nn
  have e2 := b.n1
  have hm : ¬ m.most ≤ m.L.length := by omega
  have el : m.ask.last = m.last + 1 := by unfold Pm.ask; rw [if_neg hm]; exact b.f.tok hb
  refine ⟨by unfold Pm.askC; rw [if_neg (by omega), if_neg hm], by unfold Pm.askT; rw [if_neg hm]; exact b.f.tok hb, by rw [Pm.most_ask]; exact e1, e2, b.f.ask hb, ?_, ?_, ⟨b.h.1, fun x hx => List.mem_append.2 (.inl (b.h.2 x hx))⟩, ?_⟩
  · rw [el, List.range_succ, List.map_append, ← b.a]
    rfl
  · rw [b.f.ask_ks hb hm, b.l, List.filter_append]
    congr 1
    have hno : (m.last + 1) ∉ Lh := fun hin => by
      have := b.h.2 _ hin
      rw [b.a] at this
      obtain ⟨y, hy, e⟩ := List.mem_map.1 this
      have := List.mem_range.1 hy
      omega
    rw [List.filter_cons_of_pos (by simpa using hno)]
    rfl
  · have : m.ask.an = m.an := by unfold Pm.ask; rw [if_neg hm]
    rw [this]
    exact b.t
theorem Bk.heardYes (b : Bk n m La Lh Lt) {t : Nat} (hx : (tlook m.L t).isSome = true) : m.heardC t = 0 ∧ Bk n (m.heard t) La (Lh ++ [t]) Lt := by
  have e2 := b.n1
  have e1 := b.nn
  have ht : t ∈ ks m.L := by rw [look_mem] at hx; simpa using hx
  rw [b.l] at ht
  obtain ⟨h1, h2⟩ := List.mem_filter.1 ht
  have h2 : t ∉ Lh := by simpa using h2
  have eh : m.heard t = { m with L := tdel m.L t, an := m.an ++ [t] } := by unfold Pm.heard; rw [if_pos hx]
  refine ⟨by unfold Pm.heardC; rw [if_neg (by omega), if_pos hx], by rw [Pm.most_heard]; exact e1, e2, b.f.heard t, by rw [Pm.last_heard]; exact b.a, ?_, ⟨?_, ?_⟩, ?_⟩
  · rw [eh]
    show ks (tdel m.L t) = _
    rw [ks_tdel, b.l, List.filter_filter]
    congr 1
    funext y
    by_cases hy : y = t
    · subst hy; simp
    · simp [hy]
  · rw [List.nodup_append]
    exact ⟨b.h.1, by simp, fun a ha b' hb e => h2 (by rw [List.mem_singleton.1 hb] at e; rw [← e]; exact ha)⟩
  · intro y hy
    rcases List.mem_append.1 hy with hy | hy
    · exact b.h.2 y hy
    · rw [List.mem_singleton.1 hy]; exact h1
  · rw [eh]
    show Lt ++ (m.an ++ [t]) = _
    rw [← List.append_assoc, b.t]
theorem Bk.heardNo (b : Bk n m La Lh Lt) {t : Nat} (hx : (tlook m.L t).isSome = false) : m.heardC t = 22 ∧ m.heard t = m := by
  have e2 := b.n1
  have e1 := b.nn
  unfold Pm.heardC Pm.heard
  rw [hx, if_neg (by omega)]
  exact ⟨rfl, rfl⟩
theorem Bk.told (b : Bk n m La Lh Lt) : Bk n m.told La Lh Lh := ⟨b.nn, b.n1, b.f.told, b.a, b.l, b.h, by show Lh ++ [] = Lh; simp⟩
/-- how often it was heard -/
theorem count_heard {Lh : List Nat} (hn : Lh.Nodup) (t : Nat) : Lh.count t = if t ∈ Lh then 1 else 0 := by
  induction Lh with
  | nil => simp
  | cons x l ih =>
    rw [List.nodup_cons] at hn
    rw [List.count_cons, ih hn.2]
    by_cases e : x = t
    · subst e
      simp [hn.1]
    · have e2 : ¬ t = x := fun h => e h.symm
      simp [e, e2]
theorem filter_at {p : Nat → Bool} {l : List Nat} {j t : Nat} (hj : l[j]? = some t) (hp : p t = true) : (l.filter p)[((l.take j).filter p).length]? = some t ∧ ((l.take (j + 1)).filter p).length = ((l.take j).filter p).length + 1 := by
  have hlt := (List.getElem?_eq_some_iff.1 hj).1
  have e := List.getElem?_eq_some_iff.1 hj
  have h1 : l = l.take j ++ t :: l.drop (j + 1) := by
    obtain ⟨_, e⟩ := e
    rw [← e, ← List.drop_eq_getElem_cons hlt, List.take_append_drop]
  constructor
  · have h2 : l.filter p = (l.take j).filter p ++ t :: (l.drop (j + 1)).filter p := by
      conv => lhs; rw [h1]
      rw [List.filter_append, List.filter_cons_of_pos hp]
    rw [h2, List.getElem?_append_right (Nat.le_refl _), Nat.sub_self]
    rfl
  · rw [List.take_add_one, hj, List.filter_append]
    simp [hp]
theorem filter_not {p : Nat → Bool} {l : List Nat} {j t : Nat} (hj : l[j]? = some t) (hp : p t = false) : ((l.take (j + 1)).filter p).length = ((l.take j).filter p).length := by
  rw [List.take_add_one, hj, List.filter_append]
  simp [hp]
end Go.Proofs.YtnmpnajmhfonhaaDoor
