/-
  Rows of slices of bytes ([][]byte), by owners.
-/
import Derived.Test.YtnocalkloinbbaaDoorRdOw
import Derived.Test.YtnocalkloinbbaaDoorAppO
namespace Go.Proofs.YtnocalkloinbbaaDoor
open Go.RowKit

section
variable {own own' : Nat → Nat} {d d2 : Nat} {w w' : World} {fv : Value} {rs : List (List Int)} {r : List Int} {I : Nat → Prop}

/-- slices' values and what each reads -/
def Each (own : Nat → Nat) (d : Nat) (w : World) : List Value → List (List Int) → Prop
  | [], [] => True
  | v :: vs, r :: rs => RdO own d w v r ∧ Each own d w vs rs
  | _, _ => False
theorem Each.len {vs : List Value} (h : Each own d w vs rs) : vs.length = rs.length := by
  induction vs generalizing rs with
  | nil => cases rs with
    | nil => rfl
    | cons r rs => exact h.elim
  | cons v vs ih => cases rs with
    | nil => exact h.elim
    | cons r rs => simp [ih h.2]
theorem Each.at {vs : List Value} (h : Each own d w vs rs) (k : Nat) (hk : rs[k]? = some r) : ∃ v, vs[k]? = some v ∧ RdO own d w v r := by
  induction vs generalizing rs k with
  | nil => cases rs with
    | nil => simp at hk
    | cons r rs => exact h.elim
  | cons v vs ih => cases rs with
    | nil => exact h.elim
    | cons r' rs =>
      cases k with
      | zero =>
        simp only [List.getElem?_cons_zero, Option.some.injEq] at hk
        subst hk
        exact ⟨v, rfl, h.1⟩
      | succ k =>
        simp only [List.getElem?_cons_succ] at hk ⊢
        exact ih h.2 k hk
theorem Each.map {d' : Nat} {vs : List Value} (h : Each own d w vs rs) (f : ∀ v r, RdO own d w v r → RdO own' d' w' v r) : Each own' d' w' vs rs := by
  induction vs generalizing rs with
  | nil => cases rs <;> trivial
  | cons v vs ih => cases rs with
    | nil => exact h
    | cons r rs => exact ⟨f _ _ h.1, ih h.2⟩
theorem Each.sn {vs : List Value} (h : Each own d w vs rs) (s : Sn I own w own' w') (hd : ¬ I d) : Each own' d w' vs rs := h.map (fun _ _ h => h.sn s hd)
theorem Each.snoc {vs : List Value} {v : Value} (h : Each own d w vs rs) (hv : RdO own d w v r) : Each own d w (vs ++ [v]) (rs ++ [r]) := by
  induction vs generalizing rs with
  | nil => cases rs with
    | nil => exact ⟨hv, trivial⟩
    | cons r rs => exact h.elim
  | cons v vs ih => cases rs with
    | nil => exact h.elim
    | cons r rs => exact ⟨h.1, ih h.2⟩
theorem Each.take {vs : List Value} (h : Each own d w vs rs) (k : Nat) : Each own d w (vs.take k) (rs.take k) := by
  induction vs generalizing rs k with
  | nil => cases rs with
    | nil => simp [Each]
    | cons r rs => exact h.elim
  | cons v vs ih => cases rs with
    | nil => exact h.elim
    | cons r rs =>
      cases k with
      | zero => trivial
      | succ k => exact ⟨h.1, ih h.2 k⟩
/-- a [][]byte that is read; all of it d's -/
def RdL (own : Nat → Nat) (d : Nat) (w : World) (fv : Value) (rs : List (List Int)) : Prop := ∃ vs, ReadsOff Nowhere w fv vs ∧ NilOk fv ∧ (∀ g, fv.ownBlock = some g → g < w.heap.size ∧ own g = d) ∧ Each own d w vs rs
theorem RdL.nil (own : Nat → Nat) (d : Nat) (w : World) : RdL own d w (.slice none 0 0) [] :=
  ⟨[], ⟨none, 0, rfl, Nat.le_refl _, fun j u h => by simp at h⟩, fun l c e => by injection e with _ _ e; exact e.symm, fun g h => by simp [Value.ownBlock] at h, trivial⟩
theorem RdL.sn (h : RdL own d w fv rs) (s : Sn I own w own' w') (hd : ¬ I d) : RdL own' d w' fv rs := by
  obtain ⟨vs, ⟨a, c, rfl, hl, hc⟩, h2, h3, h4⟩ := h
  refine ⟨vs, ⟨a, c, rfl, hl, fun k u hk => ?_⟩, h2, fun g hg => ⟨Nat.lt_of_lt_of_le (h3 g hg).1 s.keeps.size, (s.agree g (h3 g hg).1).trans (h3 g hg).2⟩, h4.sn s hd⟩
  obtain ⟨x, rfl, hn, hce⟩ := hc k u hk
  refine ⟨x, rfl, hn, ?_⟩
  rw [World.cell?_of_block (w := w) (s.keeps.block _ (World.block_lt_of_cell? w _ hce) (by rw [add_block]; intro e; rw [(h3 x.block rfl).2] at e; exact hd e))]
  exact hce
theorem RdL.quiet (h : RdL own d w fv rs) (hk : Keeps Nowhere w w') : RdL own d w' fv rs := h.sn (I := fun _ => False) (Sn.same hk) (fun x => x)
theorem cell_spot {x : Addr} {v : Value} (h : w.cell? (x.add 0) = some v) : x.spot = none := World.cell?_spot (a := x) h
theorem RdL.at (h : RdL own d w fv rs) : ∃ a c, fv = .slice a rs.length c ∧ rs.length ≤ c ∧ ∀ (k : Nat) (r : List Int), rs[k]? = some r → ∃ g o v, a = some ⟨g, o, none⟩ ∧ w.cell? ⟨g, o + k, none⟩ = some v ∧ RdO own d w v r := by
  obtain ⟨vs, ⟨a, c, rfl, hl, hc⟩, h2, h3, h4⟩ := h
  rw [h4.len] at hl ⊢
  refine ⟨a, c, rfl, hl, fun k r hk => ?_⟩
  obtain ⟨v, hv, hr⟩ := h4.at k hk
  obtain ⟨x, rfl, _, hce⟩ := hc k v hv
  have hs : x.spot = none := by
    cases vs with
    | nil => simp at hv
    | cons u us =>
      obtain ⟨y, hy, _, hy2⟩ := hc 0 u rfl
      cases hy
      exact cell_spot hy2
  obtain ⟨g, o, sp⟩ := x
  simp only at hs
  subst hs
  rw [add_none] at hce
  exact ⟨g, o, v, rfl, hce, hr⟩
theorem linfo : (Tryd.prog.info? 29).map (fun i => (i.zero, i.size, i.bytes)) = some (some (.slice none 0 0), 1, 24) := by kernel_rfl
/-- a [][]byte of one's own: the row is d's, what it holds d2's -/
def RowL (own : Nat → Nat) (d d2 : Nat) (w : World) (fv : Value) (rs : List (List Int)) : Prop := ∃ vs, w.ownsRow 0 29 1 fv vs.length vs ∧ (∀ g, fv.ownBlock = some g → own g = d) ∧ Each own d2 w vs rs ∧ ∀ v ∈ vs, v.oneCell' = true
theorem RowL.nil (own : Nat → Nat) (d d2 : Nat) (w : World) : RowL own d d2 w (.slice none 0 0) [] := ⟨[], World.ownsRow_nil _ _ _ _, fun g h => by simp [Value.ownBlock] at h, trivial, fun v hv => by cases hv⟩
theorem RowL.sn (h : RowL own d d2 w fv rs) (s : Sn I own w own' w') (hd : ¬ I d) (hd2 : ¬ I d2) : RowL own' d d2 w' fv rs := by
  obtain ⟨vs, h1, h2, h3, h4⟩ := h
  exact ⟨vs, owns_later h1 s.keeps (fun b hb e => hd (h2 b hb ▸ e)), fun g hg => (s.agree g (owns_lt h1 g hg)).trans (h2 g hg), h3.sn s hd2, h4⟩
theorem RowL.shape (h : RowL own d d2 w fv rs) : ∃ a c, fv = .slice a rs.length c := by
  obtain ⟨vs, h1, _, h3, _⟩ := h
  obtain ⟨a, c, e⟩ := owns_val h1
  exact ⟨a, c, by rw [e, h3.len]⟩
/-- all of it d's from now on -/
theorem RowL.rdl {own' : Nat → Nat} {d' : Nat} (h : RowL own d d2 w fv rs) (ho : ∀ g, own g = d ∨ own g = d2 → own' g = d') : RdL own' d' w fv rs := by
  obtain ⟨vs, h1, h2, h3, _⟩ := h
  obtain ⟨r1, r2⟩ := owns_reads h1
  exact ⟨vs, r1.mono (fun _ x _ => x.elim), r2, fun g hg => ⟨owns_lt h1 g hg, ho g (.inl (h2 g hg))⟩, h3.map (fun v r hr => ⟨hr.1, fun g hg => ⟨(hr.2 g hg).1, ho g (.inr (hr.2 g hg).2)⟩⟩)⟩
/-- append of one: the value lies in a new block -/
theorem wpList_appendL {W : World} {v : Value} {ops : Array Oper} {rest : List Oper} {o : Oper} {a : Act} {Q : Exit → Act → World → Prop} (hgd : o.guard = none) (s x : Operand)
    (ho : o.op = .call { callee := .builtin .append, args := #[s, x], argTypes := #[22, 22] }) (hW : W = w.alloc (.cells #[v] 29)) (hown : RowL own d d2 w fv rs) (hv : RdO own d2 w v r) (hdd : d ≠ d2)
    (hb : rs.length ≤ 4398046511103) (hs : a.eval s = fv) (hx : a.eval x = .slice (some ⟨w.heap.size, 0, none⟩) 1 1)
    (h : ∀ q' l' c' w', Aside (RowL (give own w.heap.size d) d d2 w' (.slice q' l' c') (rs ++ [r]) ∧ Sn (fun k => k = d) own w (give own w.heap.size d) w') → wpList Tryd.prog ops Q rest (a.put o.dst (.slice q' l' c')) w') : wpList Tryd.prog ops Q (o :: rest) a W := by
  subst hW
  obtain ⟨vs, h1, h2, h3, h4⟩ := hown
  have hv1 : v.oneCell' = true := by obtain ⟨p, c, e⟩ := hv.shape; rw [e]; rfl
  have hk : Keeps Nowhere w (w.alloc (.cells #[v] 29)) := (Keeps.refl _ _).alloc _
  refine wpList_appendR hgd s x 22 ho 29 (.slice none 0 0) 1 24 Tryd.underlying22 linfo rfl (by decide) w hk 0 fv vs.length vs h1 _ 1 [v] (readsK_new w 29 [v]) (by simpa using hv1) (by rw [h3.len]; omega) (by rw [h3.len]; unfold maxLen; omega) (Nat.zero_le _) hs hx ?_
  intro v' w' o' k' b'
  obtain ⟨q', c', e⟩ := owns_val o'.it
  subst e
  have s1 : Sn (fun k => k = d) own w (give own w.heap.size d) w' := ⟨fun _ hk => give_old hk, hk.any.next k'.it (fun k e hlt => h2 k e)⟩
  refine h _ _ _ w' ⟨⟨vs ++ [v], by simpa using o'.it, fun g hg => ?_, (h3.snoc hv).sn s1 (fun e => hdd e.symm), fun u hu => ?_⟩, s1⟩
  · rcases b'.it g hg with e | e
    · exact (give_old (owns_lt h1 g e)).trans (h2 g e)
    · exact give_new (Nat.le_trans hk.size e)
  · rcases List.mem_append.1 hu with hu | hu
    · exact h4 u hu
    · rw [List.mem_singleton] at hu; subst hu; exact hv1
end
end Go.Proofs.YtnocalkloinbbaaDoor
