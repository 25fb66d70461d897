/-
  LruOwn: a cache, the lists that it has answered
-/
import Derived.Test.YtcmgmhdlokcgbabDoorLoA
namespace Go.Proofs.YtcmgmhdlokcgbabDoor
open Go.RowKit Lulnn

variable {w w' w0 W W1 : World} {own own' : Nat → Nat} {i c o j ca b q n K : Nat} {room k now : Int} {L M : List Rx} {I : Nat → Prop} {A : Nat → Addr} {x y : Rx} {z : Oz} {v va vb kv tv : Value} {ks ms l : List Int} {vs ts : List Value} {f : Nat → List Int}

abbrev Li (own : Nat → Nat) (o : Nat) (w : World) (v : Value) (l : List Int) : Prop := Lx 3 mI own o w v l
theorem Li.rdI (h : Li own o w v l) (hb : ∀ y ∈ l, I6 y) : RdI w v l := owns_rdI h.1 hb
/-- a cache (1), a list of lists (5) whose k-th is 100 + 2 k's -/
structure Kb (A : Nat → Addr) (w : World) (own : Nat → Nat) (W : World) (ca : Nat) (room : Int) (L : List Rx) (kv : Value) (vs : List Value) (f : Nat → List Int) : Prop where
  og : OnG A w own W
  c : CaO own 1 W ca room L
  ka : OwR own 5 W 39 1 kv vs.length vs
  kx : ∀ k v, vs[k]? = some v → Li own (100 + 2 * k) W v (f k)
  kb : ∀ k, k < vs.length → (∀ y ∈ f k, I6 y) ∧ (f k).length ≤ 1000
theorem Kb.sn (h : Kb A w own W ca room L kv vs f) (s : Sn I own W own' w') (h0 : ¬ I 0) (h1 : ¬ I 1) (h5 : ¬ I 5) (hk : ∀ k, ¬ I (100 + 2 * k)) : Kb A w own' w' ca room L kv vs f :=
  ⟨h.og.sn s h0, h.c.sn s h1, h.ka.sn s h5, fun k v e => (h.kx k v e).sn s (hk k), h.kb⟩
theorem Kb.quiet (h : Kb A w own W ca room L kv vs f) (hk : Keeps Nowhere W w') : Kb A w own w' ca room L kv vs f := h.sn (I := fun _ => False) (Sn.same hk) (fun x => x) (fun x => x) (fun x => x) (fun _ x => x)
theorem Kb.step (h : Kb A w own W ca room L kv vs f) (hk : Keeps Nowhere W w') (r : Nat) : Kb A w (give own W.heap.size r) w' ca room L kv vs f := h.sn (I := fun _ => False) (Sn.quiet hk r) (fun x => x) (fun x => x) (fun x => x) (fun _ x => x)
/-- the cache moves -/
theorem Kb.move {L' : List Rx} (h : Kb A w own W ca room L kv vs f) (hc : CaO own' 1 w' ca room L') (s : Sn (fun k => k = 1) own W own' w') : Kb A w own' w' ca room L' kv vs f :=
  ⟨h.og.sn s (by decide), hc, h.ka.sn s (by decide), fun k v e => (h.kx k v e).sn s (by omega), h.kb⟩
/-- a list more -/
theorem Kb.push {v2 : Value} (h : Kb A w own W ca room L kv vs f) (hl : Li own (100 + 2 * vs.length) W v l) (hb : (∀ y ∈ l, I6 y) ∧ l.length ≤ 1000) (hk : Keeps Nowhere W W1) (ho : w'.ownsRow 0 39 1 v2 (vs.length + 1) (vs ++ [v])) (sp : Split kv v2 1 W1 w') : Kb A w (give own W.heap.size 5) w' ca room L v2 (vs ++ [v]) (fun k => if k = vs.length then l else f k) ∧ Sn (fun q => q = 5) own W (give own W.heap.size 5) w' := by
  obtain ⟨a, s⟩ := h.ka.app hk ho sp
  refine ⟨⟨h.og.sn s (by decide), h.c.sn s (by decide), by rw [List.length_append]; exact a, fun k u e => ?_, fun k hk => ?_⟩, s⟩
  · rcases Nat.lt_trichotomy k vs.length with hj | hj | hj
    · rw [List.getElem?_append_left hj] at e
      rw [if_neg (by omega)]
      exact (h.kx k u e).sn s (by omega)
    · subst hj
      rw [List.getElem?_append_right (Nat.le_refl _)] at e
      simp at e
      subst e
      rw [if_pos rfl]
      exact hl.sn s (by omega)
    · rw [List.getElem?_append_right (by omega), List.getElem?_eq_none (by simp; omega)] at e
      cases e
  · by_cases e : k = vs.length
    · rw [if_pos e]; exact hb
    · rw [if_neg e]
      rw [List.length_append] at hk
      exact h.kb k (by simp at hk; omega)
/-- copies of them (6; the k-th is 101 + 2 k's) -/
structure Kt (own : Nat → Nat) (W : World) (tv : Value) (ts : List Value) (f : Nat → List Int) : Prop where
  ta : OwR own 6 W 39 1 tv ts.length ts
  tx : ∀ k v, ts[k]? = some v → Li own (101 + 2 * k) W v (f k)
theorem Kt.sn (h : Kt own W tv ts f) (s : Sn I own W own' w') (h6 : ¬ I 6) (hk : ∀ k, ¬ I (101 + 2 * k)) : Kt own' w' tv ts f := ⟨h.ta.sn s h6, fun k v e => (h.tx k v e).sn s (hk k)⟩
theorem Kt.push {v2 : Value} (h : Kt own W tv ts f) (hl : Li own (101 + 2 * ts.length) W v l) (hk : Keeps Nowhere W W1) (ho : w'.ownsRow 0 39 1 v2 (ts.length + 1) (ts ++ [v])) (sp : Split tv v2 1 W1 w') : Kt (give own W.heap.size 6) w' v2 (ts ++ [v]) (fun k => if k = ts.length then l else f k) ∧ Sn (fun q => q = 6) own W (give own W.heap.size 6) w' := by
  obtain ⟨a, s⟩ := h.ta.app hk ho sp
  refine ⟨⟨by rw [List.length_append]; exact a, fun k u e => ?_⟩, s⟩
  rcases Nat.lt_trichotomy k ts.length with hj | hj | hj
  · rw [List.getElem?_append_left hj] at e
    rw [if_neg (by omega)]
    exact (h.tx k u e).sn s (by omega)
  · subst hj
    rw [List.getElem?_append_right (Nat.le_refl _)] at e
    simp at e
    subst e
    rw [if_pos rfl]
    exact hl.sn s (by omega)
  · rw [List.getElem?_append_right (by omega), List.getElem?_eq_none (by simp; omega)] at e
    cases e
theorem iv_mI (l : List Int) : iv l = l.map mI := rfl
/-- a list written over: the k-th -/
theorem Kb.at (h : Kb A w own W ca room L kv vs f) (s : Sn (fun q => q = 98 ∨ q = 100 + 2 * K) own W own' w') {u : Value} (hv : vs[K]? = some u) (hX : Li own' (100 + 2 * K) w' u l) (hb : (∀ y ∈ l, I6 y) ∧ l.length ≤ 1000) : Kb A w own' w' ca room L kv vs (fun j => if j = K then l else f j) := by
  refine ⟨h.og.sn s (by omega), h.c.sn s (by omega), h.ka.sn s (by omega), fun j u' e => ?_, fun k hk => ?_⟩
  · by_cases hj : j = K
    · subst hj
      rw [hv] at e
      injection e with e
      subst e
      rw [if_pos rfl]
      exact hX
    · rw [if_neg hj]
      exact (h.kx j u' e).sn s (by omega)
  · by_cases e : k = K
    · rw [if_pos e]; exact hb
    · rw [if_neg e]; exact h.kb k hk
theorem Kb.more {f2 : Nat → List Int} (h : Kb A w own W ca room L kv vs f) (hf : ∀ k, k < vs.length → f k = f2 k) : Kb A w own W ca room L kv vs f2 := ⟨h.og, h.c, h.ka, fun k v e => by rw [← hf k (List.getElem?_eq_some_iff.1 e).1]; exact h.kx k v e, fun k hk => by rw [← hf k hk]; exact h.kb k hk⟩
abbrev valO (k : Nat) : Int := -1000 - (k : Int)
variable {kl : List Int} {vw : Value}
/-- with b (the next of them) and want (90) -/
structure Kc (A : Nat → Addr) (w : World) (own : Nat → Nat) (W : World) (ca : Nat) (room : Int) (L : List Rx) (kv : Value) (vs : List Value) (f : Nat → List Int) (vb vw : Value) (kl : List Int) : Prop where
  k : Kb A w own W ca room L kv vs f
  b : Li own (100 + 2 * vs.length) W vb kl
  wt : Li own 90 W vw kl
theorem Kc.more {f2 : Nat → List Int} (h : Kc A w own W ca room L kv vs f vb vw kl) (hf : ∀ k, k < vs.length → f k = f2 k) : Kc A w own W ca room L kv vs f2 vb vw kl := ⟨h.k.more hf, h.b, h.wt⟩
theorem Kc.quiet (h : Kc A w own W ca room L kv vs f vb vw kl) (hk : Keeps Nowhere W w') : Kc A w own w' ca room L kv vs f vb vw kl := ⟨h.k.quiet hk, h.b.sn (I := fun _ => False) (Sn.same hk) (fun x => x), h.wt.sn (I := fun _ => False) (Sn.same hk) (fun x => x)⟩
theorem Kc.at (h : Kc A w own W ca room L kv vs f vb vw kl) (s : Sn (fun q => q = 98 ∨ q = 100 + 2 * K) own W own' w') (hK : K < vs.length) {u : Value} (hv : vs[K]? = some u) (hX : Li own' (100 + 2 * K) w' u l) (hb : (∀ y ∈ l, I6 y) ∧ l.length ≤ 1000) : Kc A w own' w' ca room L kv vs (fun j => if j = K then l else f j) vb vw kl :=
  ⟨h.k.at s hv hX hb, h.b.sn s (by omega), h.wt.sn s (by omega)⟩
theorem Kc.step (h : Kc A w own W ca room L kv vs f vb vw kl) (hk : Keeps Nowhere W w') (r : Nat) : Kc A w (give own W.heap.size r) w' ca room L kv vs f vb vw kl := ⟨h.k.step hk r, h.b.sn (I := fun _ => False) (Sn.quiet hk r) (fun x => x), h.wt.sn (I := fun _ => False) (Sn.quiet hk r) (fun x => x)⟩
/-- with want, and what has been grown (7; the k-th lies in blocks of 100 + 2 k or 101 + 2 k) -/
def Lg (own : Nat → Nat) (k : Nat) (W : World) (v : Value) (l : List Int) : Prop := W.ownsRow 0 3 1 v (l.length + 40) (l.map mI ++ List.replicate 40 (mI (-9 - (k : Int)))) ∧ ∀ b, v.ownBlock = some b → (own b = 100 + 2 * k ∨ own b = 101 + 2 * k) ∧ b < W.heap.size
theorem Lg.sn (h : Lg own K W v l) (s : Sn I own W own' w') (h1 : ¬ I (100 + 2 * K)) (h2 : ¬ I (101 + 2 * K)) : Lg own' K w' v l := by
  refine ⟨owns_later h.1 s.keeps (fun b hb e => ?_), fun b hb => ?_⟩
  · rcases (h.2 b hb).1 with e1 | e1
    · rw [e1] at e; exact h1 e
    · rw [e1] at e; exact h2 e
  · have h3 := h.2 b hb
    rw [s.agree b h3.2]
    exact ⟨h3.1, Nat.lt_of_lt_of_le h3.2 s.keeps.size⟩
structure Kg (A : Nat → Addr) (w : World) (own : Nat → Nat) (W : World) (ca : Nat) (room : Int) (L : List Rx) (kv : Value) (vs : List Value) (f : Nat → List Int) (vw : Value) (kl : List Int) (gv : Value) (ys : List Value) : Prop where
  k : Kb A w own W ca room L kv vs f
  wt : Li own 90 W vw kl
  ga : OwR own 7 W 39 1 gv ys.length ys
  gx : ∀ k v, ys[k]? = some v → Lg own k W v (f k)
variable {gv : Value} {zs : List Value}
theorem Kg.quiet (h : Kg A w own W ca room L kv vs f vw kl gv zs) (hk : Keeps Nowhere W w') : Kg A w own w' ca room L kv vs f vw kl gv zs := ⟨h.k.quiet hk, h.wt.sn (I := fun _ => False) (Sn.same hk) (fun x => x), h.ga.sn (I := fun _ => False) (Sn.same hk) (fun x => x), fun k v e => (h.gx k v e).sn (I := fun _ => False) (Sn.same hk) (fun x => x) (fun x => x)⟩
theorem Kg.step (h : Kg A w own W ca room L kv vs f vw kl gv zs) (hk : Keeps Nowhere W w') (r : Nat) : Kg A w (give own W.heap.size r) w' ca room L kv vs f vw kl gv zs := ⟨h.k.step hk r, h.wt.sn (I := fun _ => False) (Sn.quiet hk r) (fun x => x), h.ga.sn (I := fun _ => False) (Sn.quiet hk r) (fun x => x), fun k v e => (h.gx k v e).sn (I := fun _ => False) (Sn.quiet hk r) (fun x => x) (fun x => x)⟩
/-- b is written over: the last of the lists -/
theorem Kg.at (h : Kg A w own W ca room L kv vs f vw kl (.slice none 0 0) []) (s : Sn (fun q => q = 98 ∨ q = 100 + 2 * K) own W own' w') {u : Value} (hv : vs[K]? = some u) (hX : Li own' (100 + 2 * K) w' u l) (hb : (∀ y ∈ l, I6 y) ∧ l.length ≤ 1000) : Kg A w own' w' ca room L kv vs (fun j => if j = K then l else f j) vw kl (.slice none 0 0) [] :=
  ⟨h.k.at s hv hX hb, h.wt.sn s (by omega), h.ga.sn s (by omega), fun k v e => by simp at e⟩
theorem Kg.more {f2 : Nat → List Int} (h : Kg A w own W ca room L kv vs f vw kl gv zs) (hz : zs.length ≤ vs.length) (hf : ∀ k, k < vs.length → f k = f2 k) : Kg A w own W ca room L kv vs f2 vw kl gv zs := ⟨h.k.more hf, h.wt, h.ga, fun k v e => by rw [← hf k (Nat.lt_of_lt_of_le (List.getElem?_eq_some_iff.1 e).1 hz)]; exact h.gx k v e⟩
/-- the next list is being grown -/
theorem Kg.grow (h : Kg A w own W ca room L kv vs f vw kl gv zs) (s : Sn (fun q => q = 101 + 2 * zs.length ∨ q = 100 + 2 * zs.length) own W own' w') {u : Value} (hv : vs[zs.length]? = some u) (hX : Li own' (100 + 2 * zs.length) w' u (f zs.length)) : Kg A w own' w' ca room L kv vs f vw kl gv zs := by
  refine ⟨⟨h.k.og.sn s (by omega), h.k.c.sn s (by omega), h.k.ka.sn s (by omega), fun j u' e => ?_, h.k.kb⟩, h.wt.sn s (by omega), h.ga.sn s (by omega), fun k v e => ?_⟩
  · by_cases hj : j = zs.length
    · subst hj
      rw [hv] at e
      injection e with e
      subst e
      exact hX
    · exact (h.k.kx j u' e).sn s (by omega)
  · have := (List.getElem?_eq_some_iff.1 e).1
    exact (h.gx k v e).sn s (by omega) (by omega)
theorem Kg.push {u g2 gn : Value} (h : Kg A w own W ca room L kv vs f vw kl gv zs) (hu : vs[zs.length]? = some u) (G : Grows own W 3 1 u (f zs.length).length ((f zs.length).map mI) (101 + 2 * zs.length) g2 40 (List.replicate 40 (mI (-9 - (zs.length : Int))))) (hk : Keeps Nowhere W W1) (ho : w'.ownsRow 0 39 1 gn (zs.length + 1) (zs ++ [g2])) (sp : Split gv gn 1 W1 w') : Kg A w (give own W.heap.size 7) w' ca room L kv vs f vw kl gn (zs ++ [g2]) := by
  obtain ⟨a, s⟩ := h.ga.app hk ho sp
  have hg : Lg own zs.length W g2 (f zs.length) := by
    refine ⟨G.1, fun b hb => ?_⟩
    rcases G.2 with ⟨b', c', e1, e2⟩ | h2
    · rw [e2] at hb
      simp only [Value.ownBlock, Option.some.injEq] at hb
      subst hb
      have h3 := (h.k.kx _ u hu).2 b' (by rw [e1]; rfl)
      exact ⟨.inl h3.1, h3.2⟩
    · exact ⟨.inr (h2 b hb).1, (h2 b hb).2⟩
  refine ⟨h.k.sn s (by decide) (by decide) (by decide) (by omega), h.wt.sn s (by decide), by rw [List.length_append]; exact a, fun k v e => ?_⟩
  rcases Nat.lt_trichotomy k zs.length with hj | hj | hj
  · rw [List.getElem?_append_left hj] at e
    exact (h.gx k v e).sn s (by omega) (by omega)
  · subst hj
    rw [List.getElem?_append_right (Nat.le_refl _)] at e
    simp at e
    subst e
    exact hg.sn s (by omega) (by omega)
  · rw [List.getElem?_append_right (by omega), List.getElem?_eq_none (by simp; omega)] at e
    cases e
theorem Lg.cell (h : Lg own K W v l) {i : Nat} (h1 : l.length ≤ i) (h2 : i < l.length + 40) : ∃ b c, v = .slice (some ⟨b, 0, none⟩) (l.length + 40) c ∧ W.cell? ⟨b, i, none⟩ = some (mI (-9 - (K : Int))) := by
  rcases h.1.2 with ⟨_, h0⟩ | ⟨g, cap, cur, rfl, _⟩
  · omega
  · refine ⟨g, cap, rfl, ?_⟩
    have hx : (l.map mI ++ List.replicate 40 (mI (-9 - (K : Int))))[i]? = some (mI (-9 - (K : Int))) := by
      rw [List.getElem?_append_right (by rw [List.length_map]; exact h1), List.length_map]
      rw [List.getElem?_replicate, if_pos (by omega)]
    have := h.1.cells rfl i _ hx
    rwa [add_none, Nat.zero_add] at this
/-- the last list, of which i numbers are written over -/
def pF (P : Nat) (kl : List Int) (f : Nat → List Int) (i : Nat) : Nat → List Int := fun j => if j = P then partL (valO P) i kl else f j
theorem pF_at (P : Nat) (kl : List Int) (f : Nat → List Int) (i : Nat) : pF P kl f i P = partL (valO P) i kl := if_pos rfl
theorem pF_zero {P : Nat} (h : f P = kl) (j : Nat) : f j = pF P kl f 0 j := by
  unfold pF
  by_cases e : j = P
  · rw [if_pos e, partL_zero, e, h]
  · rw [if_neg e]
theorem pF_step (P : Nat) (kl : List Int) (f : Nat → List Int) (i j : Nat) : (if j = P then partL (valO P) (i + 1) kl else pF P kl f i j) = pF P kl f (i + 1) j := by
  unfold pF
  by_cases e : j = P
  · rw [if_pos e, if_pos e]
  · rw [if_neg e, if_neg e, if_neg e]
theorem pF_end {P : Nat} (h : ∀ k, k < P → f k = List.replicate (f k).length (valO k)) : ∀ k, k < P + 1 → pF P kl f kl.length k = List.replicate (pF P kl f kl.length k).length (valO k) := by
  intro k hk
  unfold pF
  by_cases e : k = P
  · rw [if_pos e, partL_all, e]
    simp
  · rw [if_neg e]
    exact h k (by omega)
end Go.Proofs.YtcmgmhdlokcgbabDoor
