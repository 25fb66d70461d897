/-
  steps that hand memory on from one owner to another; messages in rows of their own
-/
import Derived.Test.YtnocalkloinbbaaDoorOwnL
import Derived.Test.YtnocalkloinbbaaDoorRowBO
namespace Go.Proofs.YtnocalkloinbbaaDoor
open Go.RowKit

/-- a step by the owners I: what isn't of I is as it was, and whose it was -/
structure Sx (I : Nat → Prop) (own : Nat → Nat) (w : World) (own' : Nat → Nat) (w' : World) : Prop where
  agree : ∀ k, k < w.heap.size → ¬ I (own k) → own' k = own k
  keeps : Keeps (fun k => I (own k)) w w'
section
variable {own own' own'' : Nat → Nat} {w w' w'' : World} {I J : Nat → Prop} {i d d2 : Nat} {v fv : Value} {ns r : List Int} {rs ms : List (List Int)}
theorem Sn.sx (h : Sn I own w own' w') : Sx I own w own' w' := ⟨fun k hk _ => h.agree k hk, h.keeps⟩
theorem Sx.refl (I : Nat → Prop) (own : Nat → Nat) (w : World) : Sx I own w own w := (Sn.refl I own w).sx
theorem Sx.trans (h : Sx I own w own' w') (h' : Sx I own' w' own'' w'') : Sx I own w own'' w'' := by
  refine ⟨fun k hk hn => ?_, h.keeps.next h'.keeps (fun k e hk => ?_)⟩
  · have e := h.agree k hk hn
    rw [h'.agree k (Nat.lt_of_lt_of_le hk h.keeps.size) (by rw [e]; exact hn), e]
  · apply Classical.byContradiction
    intro hn
    rw [h.agree k hk hn] at e
    exact hn e
theorem Sx.mono (h : Sx I own w own' w') (hij : ∀ k, I k → J k) : Sx J own w own' w' := ⟨fun k hk hn => h.agree k hk (fun x => hn (hij _ x)), h.keeps.mono (fun _ e _ => hij _ e)⟩
theorem CellsO.sx {g : Nat} {e : TypeId} {xs : List Value} (h : CellsO own i w g e xs) (s : Sx I own w own' w') (hi : ¬ I i) : CellsO own' i w' g e xs :=
  ⟨h.1.later s.keeps (fun e' => hi (h.2 ▸ e')), (s.agree g h.1.lt (by rw [h.2]; exact hi)).trans h.2⟩
theorem Ground.sx {w0 : World} {B : Nat} (h : Ground B w0 own w) (s : Sx I own w own' w') (hi : ¬ I 0) : Ground B w0 own' w' := by
  refine ⟨fun k hlt => (s.agree k (Nat.lt_of_lt_of_le hlt h.size) (by rw [h.zero k hlt]; exact hi)).trans (h.zero k hlt), below_next h.bel s.keeps h.size (fun k e _ => ?_), Nat.le_trans h.size s.keeps.size⟩
  rcases Nat.lt_or_ge k B with hlt | hge
  · rw [h.zero k hlt] at e; exact absurd e hi
  · exact hge
theorem RowB.sx (h : RowB own i w v ns) (s : Sx I own w own' w') (ho : ¬ I i) : RowB own' i w' v ns :=
  ⟨owns_later h.1 s.keeps (fun b hb e => ho (h.2 b hb ▸ e)), fun b hb => (s.agree b (owns_lt h.1 b hb) (by rw [h.2 b hb]; exact ho)).trans (h.2 b hb)⟩
theorem RdO.sx (h : RdO own i w v ns) (s : Sx I own w own' w') (hj : ¬ I i) : RdO own' i w' v ns :=
  ⟨h.1.keep s.keeps (fun g hg e => hj ((h.2 g hg).2 ▸ e)), fun g hg => ⟨Nat.lt_of_lt_of_le (h.2 g hg).1 s.keeps.size, (s.agree g (h.2 g hg).1 (by rw [(h.2 g hg).2]; exact hj)).trans (h.2 g hg).2⟩⟩
theorem Each.sx {vs : List Value} (h : Each own d w vs rs) (s : Sx I own w own' w') (hd : ¬ I d) : Each own' d w' vs rs := h.map (fun _ _ h => h.sx s hd)
theorem RowL.sx (h : RowL own d d2 w fv rs) (s : Sx I own w own' w') (hd : ¬ I d) (hd2 : ¬ I d2) : RowL own' d d2 w' fv rs := by
  obtain ⟨vs, h1, h2, h3, h4⟩ := h
  exact ⟨vs, owns_later h1 s.keeps (fun b hb e => hd (h2 b hb ▸ e)), fun g hg => (s.agree g (owns_lt h1 g hg) (by rw [h2 g hg]; exact hd)).trans (h2 g hg), h3.sx s hd2, h4⟩
theorem RdL.sx (h : RdL own d w fv rs) (s : Sx I own w own' w') (hd : ¬ I d) : RdL own' d w' fv rs := by
  obtain ⟨vs, ⟨a, c, rfl, hl, hc⟩, h2, h3, h4⟩ := h
  refine ⟨vs, ⟨a, c, rfl, hl, fun k u hk => ?_⟩, h2, fun g hg => ⟨Nat.lt_of_lt_of_le (h3 g hg).1 s.keeps.size, (s.agree g (h3 g hg).1 (by rw [(h3 g hg).2]; exact hd)).trans (h3 g hg).2⟩, h4.sx s hd⟩
  obtain ⟨x, rfl, hn, hce⟩ := hc k u hk
  refine ⟨x, rfl, hn, ?_⟩
  rw [World.cell?_of_block (w := w) (s.keeps.block _ (World.block_lt_of_cell? w _ hce) (by rw [add_block]; intro e; rw [(h3 x.block rfl).2] at e; exact hd e))]
  exact hce
/-- rows of bytes of one's own, the k-th is (d + k)'s -/
def Rows (own : Nat → Nat) (w : World) : Nat → List Value → List (List Int) → Prop
  | _, [], [] => True
  | d, v :: vs, r :: rs => RowB own d w v r ∧ Rows own w (d + 1) vs rs
  | _, _, _ => False
theorem Rows.len {vs : List Value} (h : Rows own w d vs rs) : vs.length = rs.length := by
  induction vs generalizing rs d with
  | nil => cases rs with
    | nil => rfl
    | cons => exact h.elim
  | cons v vs ih => cases rs with
    | nil => exact h.elim
    | cons r rs => simp [ih h.2]
theorem Rows.sx {vs : List Value} (h : Rows own w d vs rs) (s : Sx I own w own' w') (hd : ∀ k, d ≤ k → ¬ I k) : Rows own' w' d vs rs := by
  induction vs generalizing rs d with
  | nil => cases rs with
    | nil => trivial
    | cons => exact h.elim
  | cons v vs ih => cases rs with
    | nil => exact h.elim
    | cons r rs => exact ⟨h.1.sx s (hd _ (Nat.le_refl _)), ih h.2 (fun k hk => hd k (by omega))⟩
theorem Rows.snoc {vs : List Value} (h : Rows own w d vs rs) (hv : RowB own (d + rs.length) w v r) : Rows own w d (vs ++ [v]) (rs ++ [r]) := by
  induction vs generalizing rs d with
  | nil => cases rs with
    | nil => exact ⟨hv, trivial⟩
    | cons => exact h.elim
  | cons v vs ih => cases rs with
    | nil => exact h.elim
    | cons r rs => exact ⟨h.1, ih h.2 (by rw [List.length_cons] at hv; rw [show d + 1 + rs.length = d + (rs.length + 1) by omega]; exact hv)⟩
theorem Rows.append {vs us : List Value} (h : Rows own w d vs rs) (h' : Rows own w (d + rs.length) us ms) : Rows own w d (vs ++ us) (rs ++ ms) := by
  induction vs generalizing rs d with
  | nil => cases rs with
    | nil => exact h'
    | cons => exact h.elim
  | cons v vs ih => cases rs with
    | nil => exact h.elim
    | cons r rs => exact ⟨h.1, ih h.2 (by rw [List.length_cons] at h'; rw [show d + 1 + rs.length = d + (rs.length + 1) by omega]; exact h')⟩
theorem Rows.at {vs : List Value} (h : Rows own w d vs rs) {k : Nat} (hk : rs[k]? = some r) : ∃ v, vs[k]? = some v ∧ RowB own (d + k) w v r := by
  induction vs generalizing rs d k with
  | nil => cases rs with
    | nil => cases hk
    | cons => exact h.elim
  | cons v vs ih => cases rs with
    | nil => cases hk
    | cons r' rs =>
      cases k with
      | zero => simp only [List.getElem?_cons_zero, Option.some.injEq] at hk; subst hk; exact ⟨v, rfl, h.1⟩
      | succ k =>
        obtain ⟨u, h1, h2⟩ := ih h.2 (by simpa using hk)
        exact ⟨u, by simpa using h1, by rw [show d + (k + 1) = d + 1 + k by omega]; exact h2⟩
/-- all of them e's from now on -/
theorem Rows.each {e : Nat} {vs : List Value} (h : Rows own w d vs rs) (ho : ∀ g, d ≤ own g → own g < d + rs.length → own' g = e) : Each own' e w vs rs := by
  induction vs generalizing rs d with
  | nil => cases rs with
    | nil => trivial
    | cons => exact h.elim
  | cons v vs ih => cases rs with
    | nil => exact h.elim
    | cons r rs => exact ⟨⟨h.1.rd, fun g hg => ⟨owns_lt h.1.1 g hg, ho g (by rw [h.1.2 g hg]; omega) (by rw [h.1.2 g hg, List.length_cons]; omega)⟩⟩, ih h.2 (fun g h1 h2 => ho g (by omega) (by rw [List.length_cons]; omega))⟩
theorem RowB.one (h : RowB own i w v ns) : v.oneCell' = true := by obtain ⟨p, c, e⟩ := h.shape; rw [e]; rfl
/-- messages: the row is d's, the k-th message (d2 + k)'s -/
def RowM (own : Nat → Nat) (d d2 : Nat) (w : World) (fv : Value) (rs : List (List Int)) : Prop := ∃ vs, w.ownsRow 0 29 1 fv vs.length vs ∧ (∀ g, fv.ownBlock = some g → own g = d) ∧ Rows own w d2 vs rs ∧ ∀ v ∈ vs, v.oneCell' = true
theorem RowM.nil (own : Nat → Nat) (d d2 : Nat) (w : World) : RowM own d d2 w (.slice none 0 0) [] := ⟨[], World.ownsRow_nil _ _ _ _, fun g h => by simp [Value.ownBlock] at h, trivial, fun v hv => by cases hv⟩
theorem RowM.sx (h : RowM own d d2 w fv rs) (s : Sx I own w own' w') (hd : ¬ I d) (hd2 : ∀ k, d2 ≤ k → ¬ I k) : RowM own' d d2 w' fv rs := by
  obtain ⟨vs, h1, h2, h3, h4⟩ := h
  exact ⟨vs, owns_later h1 s.keeps (fun b hb e => hd (h2 b hb ▸ e)), fun g hg => (s.agree g (owns_lt h1 g hg) (by rw [h2 g hg]; exact hd)).trans (h2 g hg), h3.sx s hd2, h4⟩
theorem RowM.shape (h : RowM own d d2 w fv rs) : ∃ a c, fv = .slice a rs.length c := by
  obtain ⟨vs, h1, _, h3, _⟩ := h
  obtain ⟨a, c, e⟩ := owns_val h1
  exact ⟨a, c, by rw [e, h3.len]⟩
theorem RowM.rowL {d' e : Nat} (h : RowM own d d2 w fv rs) (h1 : ∀ g, own g = d → own' g = d') (ho : ∀ g, d2 ≤ own g → own g < d2 + rs.length → own' g = e) : RowL own' d' e w fv rs := by
  obtain ⟨vs, a1, a2, a3, a4⟩ := h
  exact ⟨vs, a1, fun g hg => h1 g (a2 g hg), a3.each ho, a4⟩
/-- append of one message: its value lies in a new block -/
theorem wpList_appendM {W : World} {v : Value} {ops : Array Oper} {rest : List Oper} {o : Oper} {a : Act} {Q : Exit → Act → World → Prop} (hgd : o.guard = none) (s x : Operand)
    (ho : o.op = .call { callee := .builtin .append, args := #[s, x], argTypes := #[22, 22] }) (own : Nat → Nat) (d d2 : Nat) (hdd : d < d2) (w : World) (fv : Value) (rs : List (List Int)) (r : List Int) (hown : RowM own d d2 w fv rs) (hv : RowB own (d2 + rs.length) w v r) (hb : (rs.length + 1) * 24 ≤ 140737488355328)
    (hW : W = w.alloc (.cells #[v] 29)) (hs : a.eval s = fv) (hx : a.eval x = .slice (some ⟨w.heap.size, 0, none⟩) 1 1)
    (h : ∀ q' l' c' w', Aside (RowM (give own w.heap.size d) d d2 w' (.slice q' l' c') (rs ++ [r])) → Aside (Sn (fun k => k = d) own w (give own w.heap.size d) w') → wpList Tryd.prog ops Q rest (a.put o.dst (.slice q' l' c')) w') : wpList Tryd.prog ops Q (o :: rest) a W := by
  subst hW
  obtain ⟨vs, h1, h2, h3, h4⟩ := hown
  have hv1 : v.oneCell' = true := hv.one
  have hk : Keeps Nowhere w (w.alloc (.cells #[v] 29)) := (Keeps.refl _ _).alloc _
  refine wpList_appendR hgd s x 22 ho 29 (.slice none 0 0) 1 24 Tryd.underlying22 linfo rfl (by decide) w hk 0 fv vs.length vs h1 _ 1 [v] (readsK_new w 29 [v]) (by simpa using hv1) (by rw [h3.len]; omega) (by rw [h3.len]; unfold maxLen; omega) (Nat.zero_le _) hs hx ?_
  intro v' w' o' k' b'
  obtain ⟨q', c', e⟩ := owns_val o'.it
  subst e
  have s1 : Sn (fun k => k = d) own w (give own w.heap.size d) w' := ⟨fun _ hk => give_old hk, hk.any.next k'.it (fun k e hlt => h2 k e)⟩
  refine h _ _ _ w' ⟨⟨vs ++ [v], by simpa using o'.it, fun g hg => ?_, (h3.snoc hv).sx s1.sx (fun k hk e => by omega), fun u hu => ?_⟩⟩ ⟨s1⟩
  · rcases b'.it g hg with e | e
    · exact (give_old (owns_lt h1 g e)).trans (h2 g e)
    · exact give_new (Nat.le_trans hk.size e)
  · rcases List.mem_append.1 hu with hu | hu
    · exact h4 u hu
    · simp only [List.mem_singleton] at hu; rw [hu]; exact hv1
end
end Go.Proofs.YtnocalkloinbbaaDoor
