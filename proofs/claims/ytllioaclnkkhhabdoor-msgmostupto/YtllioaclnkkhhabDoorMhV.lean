/-
  culvertlaw27.MsgMost: two readers side by side
-/
import Derived.Test.YtllioaclnkkhhabDoorMhB
import Derived.Test.YtllioaclnkkhhabDoorOpenPs
import Derived.Test.YtllioaclnkkhhabDoorKeQ
namespace Go.Proofs.YtllioaclnkkhhabDoor
open Go.RowKit

section
variable {A : Nat → Addr} {w w' W w0 w1 : World} {own own' : Nat → Nat} {i p s most m1 m2 d d2 : Nat} {F B bs l : List Int} {dead : Bool} {v fv nv xv yv : Value} {fs ns xs ys rs : List (List Int)} {O1 O2 : MOut} {zs : List PcV} {I : Nat → Prop}
def natV (v : Value) : Nat := match v with | .int _ x => x.toNat | _ => 0
theorem sumV_take {zs : List PcV} {i : Nat} {z : PcV} (h : zs[i]? = some z) : ((zs.take (i + 1)).map (fun z => z.ns.length)).sum = ((zs.take i).map (fun z => z.ns.length)).sum + z.ns.length := by
  rw [List.take_add_one, h]
  simp
theorem sumV_le {zs : List PcV} (i : Nat) : ((zs.take i).map (fun z => z.ns.length)).sum ≤ (zs.map (fun z => z.ns.length)).sum := by
  conv => rhs; rw [← List.take_append_drop i zs, List.map_append, List.sum_append]
  omega
theorem cnt_parse (most : Nat) (F : List Int) : (parseM most F).ms.length ≤ F.length := by
  induction hn : F.length using Nat.strongRecOn generalizing F with
  | _ n ih =>
    cases hd : hdM most F with
    | none => rw [parseM_none hd]; simp
    | some x =>
      cases x with
      | none => rw [parseM_bad hd]; simp
      | some x =>
        obtain ⟨m, k⟩ := x
        have hp := hdM_pos hd
        by_cases hl : F.length < k + m
        · rw [parseM_part hd hl]; simp
        · rw [parseM_more hd (by omega)]
          have := ih (F.drop (k + m)).length (by simp; omega) (F.drop (k + m)) rfl
          simp at this ⊢
          omega
theorem bytes_parse (hb : AreBytes F) : ∀ x ∈ (parseM most F).ms, AreBytes x := by
  induction hn : F.length using Nat.strongRecOn generalizing F with
  | _ n ih =>
    cases hd : hdM most F with
    | none => rw [parseM_none hd]; simp
    | some x =>
      cases x with
      | none => rw [parseM_bad hd]; simp
      | some x =>
        obtain ⟨m, k⟩ := x
        have hp := hdM_pos hd
        by_cases hl : F.length < k + m
        · rw [parseM_part hd hl]; simp
        · rw [parseM_more hd (by omega)]
          intro x hx
          rcases List.mem_cons.1 hx with rfl | hx
          · exact fun y hy => hb y (List.mem_of_mem_drop (List.mem_of_mem_take hy))
          · exact ih (F.drop (k + m)).length (by simp; omega) (fun y hy => hb y (List.mem_of_mem_drop hy)) rfl x hx
theorem RdL.take {a : Option Addr} {len c : Nat} (h : RdL own d W (.slice a len c) rs) (n : Nat) (hn : n ≤ rs.length) : RdL own d W (.slice a n c) (rs.take n) := by
  obtain ⟨vs, ⟨a', c', e, hl, hc⟩, h2, h3, h4⟩ := h
  injection e with e1 e2 e3
  subst e1
  subst e3
  have hvl := h4.len
  refine ⟨vs.take n, ⟨a, c, by rw [List.length_take, Nat.min_eq_left (by omega)], by rw [List.length_take]; omega, fun k u hk => hc k u ?_⟩, fun l c' e => ?_, fun g hg => h3 g (by cases a <;> exact hg), h4.take n⟩
  · rw [List.getElem?_take] at hk
    split at hk
    · exact hk
    · cases hk
  · injection e with e1 _ e3
    exact h2 len c' (by rw [e1, e3])
/-- the messages' owners as one -/
def co (own : Nat → Nat) (b : Nat) : Nat := if 10 ≤ own b then 100 else own b
theorem co_small {b k : Nat} (h : own b = k) (hk : k < 10) : co own b = k := by unfold co; rw [h, if_neg (by omega)]
theorem co_big {b : Nat} (h : 10 ≤ own b) : co own b = 100 := if_pos h
theorem OnG.co (g : OnG A w0 own W) : OnG A w0 (co own) W := ⟨⟨fun k hk => co_small (g.g.zero k hk) (by omega), g.g.bel, g.g.size⟩, g.s⟩
theorem RdrO.co (r : RdrO own i W p most l dead) (hi : i + 1 < 10) : RdrO (co own) i W p most l dead := by
  unfold RdrO at r ⊢
  split at r
  · rename_i hd
    rw [if_pos hd]
    exact ⟨⟨r.1.1, co_small r.1.2 (by omega)⟩, r.2⟩
  · rename_i hd
    rw [if_neg hd]
    obtain ⟨h, z, B, v, e1, e2, x⟩ := r
    exact ⟨h, z, B, v, e1, e2, ⟨x.box.1, co_small x.box.2 (by omega)⟩, ⟨x.row.1, fun b hb => co_small (x.row.2 b hb) (by omega)⟩, x.part, x.most⟩
theorem RowL.co (h : RowL own d 100 W v rs) (hd : d < 10) : RowL (co own) d 100 W v rs := h.reown (fun g hg => co_small hg hd) (fun g hg => co_big (by omega))
/-- two readers, what each gave, what each has just given -/
structure Mo (A : Nat → Addr) (w0 : World) (own : Nat → Nat) (W : World) (p s m1 m2 : Nat) (O1 O2 : MOut) (fv nv xv yv : Value) (fs ns xs ys : List (List Int)) : Prop where
  g : OnG A w0 own W
  r : RdrO own 1 W p m1 O1.rest O1.dead
  s : RdrO own 6 W s m2 O2.rest O2.dead
  few : RowL own 5 100 W fv fs
  many : RowL own 8 100 W nv ns
  x : RowL own 4 100 W xv xs
  y : RowL own 9 100 W yv ys
theorem Mo.sn (h : Mo A w0 own W p s m1 m2 O1 O2 fv nv xv yv fs ns xs ys) (k : Sn I own W own' w') (hi : ∀ k, I k → k = 3) : Mo A w0 own' w' p s m1 m2 O1 O2 fv nv xv yv fs ns xs ys := by
  have n : ∀ k, k ≠ 3 → ¬ I k := fun k hk e => hk (hi k e)
  exact ⟨h.g.sn k (n _ (by decide)), h.r.sx k.sx (n _ (by decide)) (n _ (by decide)), h.s.sx k.sx (n _ (by decide)) (n _ (by decide)), h.few.sn k (n _ (by decide)) (n _ (by decide)), h.many.sn k (n _ (by decide)) (n _ (by decide)), h.x.sn k (n _ (by decide)) (n _ (by decide)), h.y.sn k (n _ (by decide)) (n _ (by decide))⟩
theorem Mo.quiet (h : Mo A w0 own W p s m1 m2 O1 O2 fv nv xv yv fs ns xs ys) (k : Keeps Nowhere W w') : Mo A w0 own w' p s m1 m2 O1 O2 fv nv xv yv fs ns xs ys := h.sn (I := fun _ => False) (Sn.same k) (fun _ x => x.elim)
theorem who6 : Who 6 3 9 10 := ⟨by decide, by decide, by decide, by decide, by decide, by decide, by decide, by decide, by decide⟩
theorem Mo.feedA (h : Mo A w0 own W p s m1 m2 O1 O2 fv nv xv yv fs ns xs ys) {q : Option Addr} {ln c : Nat} (R : RdO own 3 W (.slice q ln c) bs) (hb : AreBytes bs) (hL : bs.length ≤ 2199023255552) :
    Calls Tryd.prog 8 #[ptr p, .slice q ln c] W fun e w' => ∃ fq fl fc ev own', e = .returned (.tuple #[.slice fq fl fc, ev]) ∧ Aside (Mo A w0 own' w' p s m1 m2 (outM m1 O1.rest O1.dead bs) O2 fv nv (.slice fq fl fc) yv fs ns (outM m1 O1.rest O1.dead bs).ms ys) := by
  refine (feedM h.g h.r R hb who hL).mono ?_
  rintro e w' ⟨fq, fl, fc, ev, own', rfl, C, X⟩
  have S := X.it.2.2.2
  have n : ∀ k, k ≠ 1 → k ≠ 2 → k ≠ 4 → ¬ WhoI 1 4 k := fun k a b c e => by rcases e with e | e | e <;> omega
  exact ⟨fq, fl, fc, ev, _, rfl, ⟨X.it.1.co, X.it.2.2.1.co (by decide), (h.s.sx S (n _ (by decide) (by decide) (by decide)) (n _ (by decide) (by decide) (by decide))).co (by decide),
    (h.few.sx S (n _ (by decide) (by decide) (by decide)) (n _ (by decide) (by decide) (by decide))).co (by decide), (h.many.sx S (n _ (by decide) (by decide) (by decide)) (n _ (by decide) (by decide) (by decide))).co (by decide),
    RowM.rowL X.it.2.1 (fun g hg => co_small hg (by decide)) (fun g h1 _ => co_big h1), (h.y.sx S (n _ (by decide) (by decide) (by decide)) (n _ (by decide) (by decide) (by decide))).co (by decide)⟩⟩
theorem Mo.feedB (h : Mo A w0 own W p s m1 m2 O1 O2 fv nv xv yv fs ns xs ys) {q : Option Addr} {ln c : Nat} (R : RdO own 3 W (.slice q ln c) bs) (hb : AreBytes bs) (hL : bs.length ≤ 2199023255552) :
    Calls Tryd.prog 8 #[ptr s, .slice q ln c] W fun e w' => ∃ fq fl fc ev own', e = .returned (.tuple #[.slice fq fl fc, ev]) ∧ Aside (Mo A w0 own' w' p s m1 m2 O1 (outM m2 O2.rest O2.dead bs) fv nv xv (.slice fq fl fc) fs ns xs (outM m2 O2.rest O2.dead bs).ms) := by
  refine (feedM h.g h.s R hb who6 hL).mono ?_
  rintro e w' ⟨fq, fl, fc, ev, own', rfl, C, X⟩
  have S := X.it.2.2.2
  have n : ∀ k, k ≠ 6 → k ≠ 7 → k ≠ 9 → ¬ WhoI 6 9 k := fun k a b c e => by rcases e with e | e | e <;> omega
  exact ⟨fq, fl, fc, ev, _, rfl, ⟨X.it.1.co, (h.r.sx S (n _ (by decide) (by decide) (by decide)) (n _ (by decide) (by decide) (by decide))).co (by decide), X.it.2.2.1.co (by decide),
    (h.few.sx S (n _ (by decide) (by decide) (by decide)) (n _ (by decide) (by decide) (by decide))).co (by decide), (h.many.sx S (n _ (by decide) (by decide) (by decide)) (n _ (by decide) (by decide) (by decide))).co (by decide),
    (h.x.sx S (n _ (by decide) (by decide) (by decide)) (n _ (by decide) (by decide) (by decide))).co (by decide), RowM.rowL X.it.2.1 (fun g hg => co_small hg (by decide)) (fun g h1 _ => co_big h1)⟩⟩
theorem Mo.appA {nw : Value} {gs : List (List Int)} (h : Mo A w0 own W p s m1 m2 O1 O2 fv nv xv yv fs ns xs ys) (R : RowL own' 5 100 w' nw gs) (k : Sn (fun k => k = 5) own W own' w') : Mo A w0 own' w' p s m1 m2 O1 O2 nw nv xv yv gs ns xs ys :=
  ⟨h.g.sn k (by decide), h.r.sx k.sx (by decide) (by decide), h.s.sx k.sx (by decide) (by decide), R, h.many.sn k (by decide) (by decide), h.x.sn k (by decide) (by decide), h.y.sn k (by decide) (by decide)⟩
theorem Mo.appB {nw : Value} {gs : List (List Int)} (h : Mo A w0 own W p s m1 m2 O1 O2 fv nv xv yv fs ns xs ys) (R : RowL own' 8 100 w' nw gs) (k : Sn (fun k => k = 8) own W own' w') : Mo A w0 own' w' p s m1 m2 O1 O2 fv nw xv yv fs gs xs ys :=
  ⟨h.g.sn k (by decide), h.r.sx k.sx (by decide) (by decide), h.s.sx k.sx (by decide) (by decide), h.few.sn k (by decide) (by decide), R, h.x.sn k (by decide) (by decide), h.y.sn k (by decide) (by decide)⟩
theorem Mo.drop (h : Mo A w0 own W p s m1 m2 O1 O2 fv nv xv yv fs ns xs ys) : Mo A w0 own W p s m1 m2 O1 O2 fv nv (.slice none 0 0) (.slice none 0 0) fs ns [] [] := ⟨h.g, h.r, h.s, h.few, h.many, RowL.nil _ _ _ _, RowL.nil _ _ _ _⟩
/-- a copy of a piece, for a Feed -/
theorem Mo.seg (h : Mo A w0 own W p s m1 m2 O1 O2 fv nv xv yv fs ns xs ys) {seg : List Int} {q8 : Option Addr} {l8 c8 : Nat} {W1 w8 : World} (k1 : Keeps Nowhere W W1) (o8 : w8.ownsRow 0 5 1 (.slice q8 l8 c8) (([] : List Int) ++ seg).length (bv (([] : List Int) ++ seg)))
    (k8 : Keeps (fun b => (Value.slice (some ⟨W.heap.size, 0, none⟩) 0 0).ownBlock = some b) W1 w8) (b8 : ∀ b, (Value.slice q8 l8 c8).ownBlock = some b → (Value.slice (some ⟨W.heap.size, 0, none⟩) 0 0).ownBlock = some b ∨ W1.heap.size ≤ b) :
    ∃ own', Mo A w0 own' w8 p s m1 m2 O1 O2 fv nv xv yv fs ns xs ys ∧ RdO own' 3 w8 (.slice q8 l8 c8) seg := by
  have kk : Keeps Nowhere W w8 := k1.next k8 (fun k hk hlt => by
    simp only [Value.ownBlock, Option.some.injEq] at hk
    omega)
  have s : Sn (fun _ => False) own W (give own W.heap.size 3) w8 := Sn.quiet kk 3
  have hbb : ∀ b, (Value.slice q8 l8 c8).ownBlock = some b → W.heap.size ≤ b := fun b hb => by
    rcases b8 b hb with e | e
    · simp only [Value.ownBlock, Option.some.injEq] at e
      omega
    · exact Nat.le_trans k1.size e
  have o9 : OwnB 0 w8 (.slice q8 l8 c8) seg := by simpa [OwnB] using o8
  exact ⟨_, h.sn s (fun _ x => x.elim), OwnB.rd o9, fun g hg => ⟨owns_lt o8 g hg, give_new (hbb g hg)⟩⟩
end
end Go.Proofs.YtllioaclnkkhhabDoor
