/-
  layer 27's laws: messages gathered
-/
import Derived.Test.YtnocalkloinbbaaDoorMhA
namespace Go.Proofs.YtnocalkloinbbaaDoor
open Go.RowKit

section
variable {A : Nat → Addr} {w w' W w0 : World} {own own' : Nat → Nat} {p most : Nat} {bs seg l : List Int} {dead : Bool} {v fv ev gv : Value} {ms rs : List (List Int)} {O : MOut} {d d2 e : Nat}
theorem Each.append {vs us : List Value} (h : Each own d w vs rs) (h' : Each own d w us ms) : Each own d w (vs ++ us) (rs ++ ms) := by
  induction vs generalizing rs with
  | nil => cases rs with
    | nil => exact h'
    | cons => exact h.elim
  | cons v vs ih => cases rs with
    | nil => exact h.elim
    | cons r rs => exact ⟨h.1, ih h.2⟩
/-- append(fv, gv...) of rows of messages -/
theorem wpList_appendLL {W : World} {ops : Array Oper} {rest : List Oper} {o : Oper} {a : Act} {Q : Exit → Act → World → Prop} (hgd : o.guard = none) (s x : Operand)
    (ho : o.op = .call { callee := .builtin .append, args := #[s, x], argTypes := #[22, 22] }) (hown : RowL own d d2 W fv rs) (hg : RowL own e d2 W gv ms) (hdd : d ≠ d2) (hb : rs.length + ms.length ≤ 4398046511103) (hs : a.eval s = fv) (hx : a.eval x = gv)
    (h : ∀ q' l' c' w', Aside (RowL (give own W.heap.size d) d d2 w' (.slice q' l' c') (rs ++ ms)) → Aside (Sn (fun k => k = d) own W (give own W.heap.size d) w') → wpList Tryd.prog ops Q rest (a.put o.dst (.slice q' l' c')) w') : wpList Tryd.prog ops Q (o :: rest) a W := by
  obtain ⟨vs, h1, h2, h3, h4⟩ := hown
  obtain ⟨us, g1, g2, g3, g4⟩ := hg
  refine wpList_appendR hgd s x 22 ho 29 (.slice none 0 0) 1 24 Tryd.underlying22 linfo rfl (by decide) W (Keeps.refl _ _) 0 fv vs.length vs h1 gv us.length us (owns_readsK g1) g4 (by rw [h3.len, g3.len]; omega) (by rw [h3.len, g3.len]; unfold maxLen; omega) (Nat.zero_le _) hs hx ?_
  intro v' w' o' k' b'
  obtain ⟨q', c', ee⟩ := owns_val o'.it
  subst ee
  have s1 : Sn (fun k => k = d) own W (give own W.heap.size d) w' := ⟨fun _ hk => give_old hk, k'.it.mono (fun k ee hlt => h2 k ee)⟩
  refine h _ _ _ w' ⟨⟨vs ++ us, by simpa using o'.it, fun g hg => ?_, (h3.append g3).sn s1 (fun ee => hdd ee.symm), fun u hu => ?_⟩⟩ ⟨s1⟩
  · rcases b'.it g hg with ee | ee
    · exact (give_old (owns_lt h1 g ee)).trans (h2 g ee)
    · exact give_new ee
  · rcases List.mem_append.1 hu with hu | hu
    · exact h4 u hu
    · exact g4 u hu
/-- what a reader behind O says of more bytes -/
theorem parse_more {F : List Int} (B : List Int) (hO : parseM most F = O) : parseM most (F ++ B) = ⟨O.ms ++ (outM most O.rest O.dead B).ms, (outM most O.rest O.dead B).rest, (outM most O.rest O.dead B).dead⟩ := by
  subst hO
  unfold outM
  cases hd : (parseM most F).dead with
  | true =>
    rw [parseM_app_dead F B hd]
    have := parse_rest_dead hd
    cases hp : parseM most F with
    | mk ms rest dead => rw [hp] at hd this; simp only at hd this; subst hd this; simp
  | false =>
    simp only [Bool.false_eq_true, if_false]
    exact parseM_app F B hd
theorem codeM_more (o : MOut) : codeM o = 0 ∨ codeM o = 15 := by unfold codeM; split <;> simp
/-- messages gathered from a reader: the row is 5's, all messages 100's -/
structure Gi (A : Nat → Addr) (w0 : World) (own : Nat → Nat) (W : World) (p most : Nat) (O : MOut) (fv : Value) : Prop where
  L : Lm A w0 own W p most O.rest O.dead
  row : RowL own 5 100 W fv O.ms
/-- behind a Feed, ahead of the append -/
structure Gm (A : Nat → Addr) (w0 : World) (own : Nat → Nat) (W : World) (p most : Nat) (O o2 : MOut) (fv gv : Value) : Prop where
  L : Lm A w0 own W p most o2.rest o2.dead
  row : RowL own 5 100 W fv O.ms
  got : RowL own 4 100 W gv o2.ms
theorem RowL.reown {own2 : Nat → Nat} {d' e' : Nat} (h : RowL own d d2 W fv ms) (h1 : ∀ g, own g = d → own2 g = d') (h2 : ∀ g, own g = d2 → own2 g = e') : RowL own2 d' e' W fv ms := by
  obtain ⟨vs, a1, a2, a3, a4⟩ := h
  exact ⟨vs, a1, fun g hg => h1 g (a2 g hg), a3.map (fun v r hr => ⟨hr.1, fun g hg => ⟨(hr.2 g hg).1, h2 g (hr.2 g hg).2⟩⟩), a4⟩
theorem Gi.sn {I : Nat → Prop} (h : Gi A w0 own W p most O fv) (s : Sn I own W own' w') (hi : ∀ k, I k → k = 3 ∨ k = 4 ∨ k = 6 ∨ k = 7) : Gi A w0 own' w' p most O fv :=
  ⟨h.L.sn s (fun e => by have := hi _ e; omega) (fun e => by have := hi _ e; omega) (fun e => by have := hi _ e; omega), h.row.sn s (fun e => by have := hi _ e; omega) (fun e => by have := hi _ e; omega)⟩
theorem Gi.quiet (h : Gi A w0 own W p most O fv) (k : Keeps Nowhere W w') : Gi A w0 own w' p most O fv := h.sn (I := fun _ => False) (Sn.same k) (fun _ x => x.elim)
/-- a reader's and all else's owners, the messages' as one -/
theorem Lm.coarse (L : Lm A w0 own W p most l dead) : Lm A w0 (fun b => if 10 ≤ own b then 100 else own b) W p most l dead := by
  refine ⟨⟨⟨fun k hk => by show (if 10 ≤ own k then 100 else own k) = 0; rw [L.g.g.zero k hk]; rfl, L.g.g.bel, L.g.g.size⟩, L.g.s⟩, ?_⟩
  have r := L.r
  unfold RdrO at r ⊢
  split at r
  · rename_i hd
    rw [if_pos hd]
    exact ⟨⟨r.1.1, by show (if 10 ≤ own p then 100 else own p) = 1; rw [r.1.2]; rfl⟩, r.2⟩
  · rename_i hd
    rw [if_neg hd]
    obtain ⟨h, z, B, v, e1, e2, x⟩ := r
    exact ⟨h, z, B, v, e1, e2, ⟨x.box.1, by show (if 10 ≤ own p then 100 else own p) = 1; rw [x.box.2]; rfl⟩, ⟨x.row.1, fun b hb => by show (if 10 ≤ own b then 100 else own b) = 2; rw [x.row.2 b hb]; rfl⟩, x.part, x.most⟩
theorem gi_feed (h : Gi A w0 own W p most O fv) {q : Option Addr} {ln c : Nat} (R : RdO own 3 W (.slice q ln c) seg) (hb : AreBytes seg) (hL : seg.length ≤ 2199023255552) : Calls Tryd.prog 8 #[ptr p, .slice q ln c] W fun e w' => ∃ fq fl fc ev own', e = .returned (.tuple #[.slice fq fl fc, ev]) ∧ Hid (Coded A ev (codeF O.dead (outM most O.rest O.dead seg))) ∧ Aside (Gm A w0 own' w' p most O (outM most O.rest O.dead seg) fv (.slice fq fl fc)) := by
  refine (lm_feed h.L R hb hL).mono ?_
  rintro e w' ⟨fq, fl, fc, ev, own', rfl, C, X⟩
  refine ⟨fq, fl, fc, ev, _, rfl, C, ⟨X.it.1.coarse, ?_, ?_⟩⟩
  · refine RowL.reown (h.row.sx X.it.2.2 (by rintro (e | e | e) <;> omega) (by rintro (e | e | e) <;> omega)) (fun g hg => ?_) (fun g hg => ?_)
    · show (if 10 ≤ own' g then 100 else own' g) = 5; rw [hg]; rfl
    · show (if 10 ≤ own' g then 100 else own' g) = 100; rw [hg]; rfl
  · refine RowM.rowL X.it.2.1 (fun g hg => ?_) (fun g h1 h2 => ?_)
    · show (if 10 ≤ own' g then 100 else own' g) = 4; rw [hg]; rfl
    · exact if_pos h1
theorem gi_seg (h : Gi A w0 own W p most O fv) {q8 : Option Addr} {l8 c8 : Nat} {W1 w8 : World} (k1 : Keeps Nowhere W W1) (o8 : w8.ownsRow 0 5 1 (.slice q8 l8 c8) (([] : List Int) ++ seg).length (bv (([] : List Int) ++ seg)))
    (k8 : Keeps (fun b => (Value.slice (some ⟨W.heap.size, 0, none⟩) 0 0).ownBlock = some b) W1 w8) (b8 : ∀ b, (Value.slice q8 l8 c8).ownBlock = some b → (Value.slice (some ⟨W.heap.size, 0, none⟩) 0 0).ownBlock = some b ∨ W1.heap.size ≤ b) (hb : AreBytes seg) (hL : seg.length ≤ 2199023255552) :
    Calls Tryd.prog 8 #[ptr p, .slice q8 l8 c8] w8 fun e w' => ∃ fq fl fc ev own', e = .returned (.tuple #[.slice fq fl fc, ev]) ∧ Hid (Coded A ev (codeF O.dead (outM most O.rest O.dead seg))) ∧ Aside (Gm A w0 own' w' p most O (outM most O.rest O.dead seg) fv (.slice fq fl fc)) := by
  have kk : Keeps Nowhere W w8 := k1.next k8 (fun k hk hlt => by
    simp only [Value.ownBlock, Option.some.injEq] at hk
    omega)
  have s : Sn (fun _ => False) own W (give own W.heap.size 3) w8 := Sn.quiet kk 3
  have hbb : ∀ b, (Value.slice q8 l8 c8).ownBlock = some b → W.heap.size ≤ b := fun b hb => by
    rcases b8 b hb with e | e
    · simp only [Value.ownBlock, Option.some.injEq] at e
      omega
    · exact Nat.le_trans k1.size e
  have o9 : OwnB 0 w8 (.slice q8 l8 c8) seg := by simpa [OwnB] using o8
  exact gi_feed (h.sn s (fun _ x => x.elim)) ⟨OwnB.rd o9, fun g hg => ⟨owns_lt o8 g hg, give_new (hbb g hg)⟩⟩ hb hL
end
end Go.Proofs.YtnocalkloinbbaaDoor
