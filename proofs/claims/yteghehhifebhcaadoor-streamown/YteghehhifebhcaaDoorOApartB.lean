/-
  culvertlaw01.Apart: what its loops keep.
-/
import Derived.Test.YteghehhifebhcaaDoorOApartA
namespace Go.Proofs.YteghehhifebhcaaDoor
open Go.RowKit

def b1 (i k : Nat) : Int := (7 * (i : Int) + (k : Int)) % 256
def b2 (i k : Nat) : Int := (11 * (i : Int) + (k : Int) + 3) % 256
def P1 (i n : Nat) : List Int := (List.range n).map (b1 i)
def P2 (i n : Nat) : List Int := (List.range n).map (b2 i)
theorem P1_length (i n : Nat) : (P1 i n).length = n := by simp [P1]
theorem P2_length (i n : Nat) : (P2 i n).length = n := by simp [P2]
theorem P2_succ (i n : Nat) : P2 i (n + 1) = P2 i n ++ [b2 i n] := by simp [P2, List.range_succ]
theorem P1_at (i n k : Nat) (h : k < n) : (P1 i n).getD k 0 = b1 i k := by simp [P1, List.getD, h]
theorem P2_at (i n k : Nat) (h : k < n) : (P2 i n).getD k 0 = b2 i k := by simp [P2, List.getD, h]

/-- v's bytes can be read -/
def Rc (w : World) (v : Value) (ns : List Int) : Prop := ∃ a c, v = .slice a ns.length c ∧ ∀ j, j < ns.length → ∃ g, a = some ⟨g, 0, none⟩ ∧ w.cell? ⟨g, j, none⟩ = some (.int .u8 (ns.getD j 0))
theorem OwnB.rc {B : Nat} {w : World} {v : Value} {ns : List Int} (h : OwnB B w v ns) : Rc w v ns := by
  by_cases hp : 0 < ns.length
  · obtain ⟨g, c, rfl, hc⟩ := h.at hp
    exact ⟨_, _, rfl, fun j hj => ⟨g, rfl, hc j hj⟩⟩
  · obtain ⟨p, c, rfl⟩ := h.shape
    exact ⟨_, _, rfl, fun j hj => absurd hj (by omega)⟩
theorem Rc.keeps {S : Nat → Prop} {w w' : World} {v : Value} {ns : List Int} (h : Rc w v ns) (hk : Keeps S w w') (hn : ∀ b, v.ownBlock = some b → ¬ S b) : Rc w' v ns := by
  obtain ⟨a, c, rfl, hc⟩ := h
  refine ⟨a, c, rfl, fun j hj => ?_⟩
  obtain ⟨g, rfl, hce⟩ := hc j hj
  refine ⟨g, rfl, ?_⟩
  rw [World.cell?_of_block (w := w) (hk.block g (cell_lt hce) (hn g rfl))]
  exact hce

/-- the list of lists: its cells, and what spare room lies behind them -/
def OutP (w : World) (p : Nat) (vs : List Value) : Prop := ∃ ex, Cells w p 36 (vs ++ ex)
theorem OutP.later {S : Nat → Prop} {w w' : World} {p : Nat} {vs : List Value} (h : OutP w p vs) (hk : Keeps S w w') (hn : ¬ S p) : OutP w' p vs := by
  obtain ⟨ex, h⟩ := h
  exact ⟨ex, h.later hk hn⟩
theorem OutP.lt {w : World} {p : Nat} {vs : List Value} (h : OutP w p vs) : p < w.heap.size := by
  obtain ⟨ex, h⟩ := h
  exact h.lt
theorem OutP.cell {w : World} {p : Nat} {vs : List Value} (h : OutP w p vs) (j : Nat) (v : Value) (hv : vs[j]? = some v) : w.cell? ⟨p, j, none⟩ = some v := by
  obtain ⟨ex, h⟩ := h
  rw [h.cell, List.getElem?_append_left (List.getElem?_eq_some_iff.1 hv).1]
  exact hv

structure Aq (B : Nat) (w0 : World) (ow0 : Nat → Nat) (own : Nat → Nat) (p q : Nat) (vs : List Value) (M : Nat → List Int) (t d : Nat) (us : List Value) (w : World) : Prop where
  below : Below B w0 w
  ag : ∀ b, b < w0.heap.size → own b = ow0 b
  kp : Keeps (fun b => 1 ≤ ow0 b) w0 w
  qn : w0.heap.size ≤ q
  hB : B ≤ w.heap.size
  outer : OutP w p vs
  mineP : own p = 0
  outq : Cells w q 36 us
  mineQ : own q = 0
  bq : B ≤ q
  pq : p ≠ q
  reads : ∀ j v, vs[j]? = some v → Rc w v (M j) ∧ Mine own (j + 1) v ∧ ∀ b, v.ownBlock = some b → b < w.heap.size
  todo : ∀ j v, t ≤ j → vs[j]? = some v → OwnB B w v (M j)
  done : ∀ j u, j < d → us[j]? = some u → OwnB B w u (M j ++ P2 j 40) ∧ Mine own (j + 1) u

section
variable {B : Nat} {w0 w w' : World} {ow0 own : Nat → Nat} {p q : Nat} {vs us : List Value} {M : Nat → List Int} {t d : Nat}

theorem Aq.quiet (h : Aq B w0 ow0 own p q vs M t d us w) (hk : Keeps Nowhere w w') : Aq B w0 ow0 own p q vs M t d us w' where
  below := h.below.trans (hk.below h.hB (fun _ x => x.elim))
  ag := h.ag
  kp := h.kp.next hk (fun _ x _ => x.elim)
  qn := h.qn
  hB := Nat.le_trans h.hB hk.size
  outer := h.outer.later hk (fun x => x)
  mineP := h.mineP
  outq := h.outq.later hk (fun x => x)
  mineQ := h.mineQ
  bq := h.bq
  pq := h.pq
  reads := fun j v hv => ⟨(h.reads j v hv).1.keeps hk (fun _ _ x => x), (h.reads j v hv).2.1, fun b hb => Nat.lt_of_lt_of_le ((h.reads j v hv).2.2 b hb) hk.size⟩
  todo := fun j v ht hv => (h.todo j v ht hv).keeps hk (fun _ _ x => x)
  done := fun j u hd hu => ⟨(h.done j u hd hu).1.keeps hk (fun _ _ x => x), (h.done j u hd hu).2⟩

theorem Aq.change {N : Nat → List Int} (h : Aq B w0 ow0 own p q vs M 0 0 us w) (hN : ∀ j v, vs[j]? = some v → M j = N j) : Aq B w0 ow0 own p q vs N 0 0 us w :=
  { h with
    reads := fun j v hv => by rw [← hN j v hv]; exact h.reads j v hv
    todo := fun j v ht hv => by rw [← hN j v hv]; exact h.todo j v ht hv
    done := fun j u hd => absurd hd (Nat.not_lt_zero _) }
theorem Aq.weak {i : Nat} (h : Aq B w0 ow0 own p q vs M i i us w) : Aq B w0 ow0 own p q vs M (i + 1) i us w :=
  { h with todo := fun j v ht hv => h.todo j v (by omega) hv }
/-- a byte of a list is written -/
theorem Aq.set (h : Aq B w0 ow0 own p q vs M 0 0 us w) (i g l c k : Nat) (x : Int) (hv : vs[i]? = some (.slice (some ⟨g, 0, none⟩) l c)) (hk : k < (M i).length) :
    Aq B w0 ow0 own p q vs (fun j => if j = i then (M i).set k x else M j) 0 0 us (w.setCell ⟨g, k, none⟩ (.int .u8 x)) := by
  have hm : own g = i + 1 := (h.reads i _ hv).2.1 g rfl
  have hgB : B ≤ g := (h.todo i _ (Nat.zero_le _) hv).base g rfl
  have kk : Keeps (fun b => b = g) w (w.setCell ⟨g, k, none⟩ (.int .u8 x)) := (Keeps.refl _ _).setCell _ _ (fun _ => rfl)
  have hO : ∀ j v, vs[j]? = some v → OwnB B (w.setCell ⟨g, k, none⟩ (.int .u8 x)) v (if j = i then (M i).set k x else M j) := by
    intro j v hj
    by_cases e : j = i
    · subst e
      rw [hv] at hj
      injection hj with hj
      subst hj
      rw [if_pos rfl]
      exact (h.todo j _ (Nat.zero_le _) hv).set k hk x
    · rw [if_neg e]
      refine (h.todo j v (Nat.zero_le _) hj).keeps kk (fun b hb e' => e ?_)
      have := (h.reads j v hj).2.1 b hb
      rw [e', hm] at this
      omega
  refine ⟨h.below.trans (kk.below h.hB (fun b e => e ▸ hgB)), h.ag, h.kp.next kk (fun b e hb => by subst e; rw [← h.ag _ hb, hm]; omega), h.qn, Nat.le_trans h.hB kk.size, h.outer.later kk (fun e => ?_), h.mineP, h.outq.later kk (fun e => ?_), h.mineQ, h.bq, h.pq, ?_, ?_, fun j u hd => absurd hd (Nat.not_lt_zero _)⟩
  · have := h.mineP
    rw [e, hm] at this
    omega
  · have := h.mineQ
    rw [e, hm] at this
    omega
  · exact fun j v hj => ⟨(hO j v hj).rc, (h.reads j v hj).2.1, (hO j v hj).lt⟩
  · exact fun j v _ hj => hO j v hj

/-- a list has grown by a byte -/
theorem Aq.grow {i k : Nat} {g v' : Value} (h : Aq B w0 ow0 own p q vs M (i + 1) i us w) (hg : Mine own (i + 1) g) (hgo : OwnB B w g (M i ++ P2 i k))
    (hk : Keeps (fun b => g.ownBlock = some b) w w') (hb : ∀ b, v'.ownBlock = some b → g.ownBlock = some b ∨ w.heap.size ≤ b)
    (hs : ∀ b j u, g.ownBlock = some b → j < (M i ++ P2 i k).length → w.cell? ⟨b, j, none⟩ = some u → w'.cell? ⟨b, j, none⟩ = some u) :
    Aq B w0 ow0 (give own w.heap.size (i + 1)) p q vs M (i + 1) i us w' ∧ Mine (give own w.heap.size (i + 1)) (i + 1) v' := by
  have hgl := hgo.lt
  have hgb := hgo.base
  have hmine : ∀ {j : Nat} {x : Value}, Mine own j x → (∀ b, x.ownBlock = some b → b < w.heap.size) → Mine (give own w.heap.size (i + 1)) j x := fun hm hl b hxb => by
    rw [give_old (hl b hxb)]
    exact hm b hxb
  have hoff : ∀ {j : Nat} {x : Value}, Mine own j x → j ≠ i + 1 → ∀ b, x.ownBlock = some b → ¬ g.ownBlock = some b := fun hm hne b hxb hgb' => hne ((hm b hxb).symm.trans (hg b hgb'))
  refine ⟨⟨h.below.trans (hk.below h.hB (fun b e => hgb b e)), fun b hb => by rw [give_old (Nat.lt_of_lt_of_le hb h.kp.size)]; exact h.ag b hb, h.kp.next hk (fun b e hb => by rw [← h.ag b hb, hg b e]; omega), h.qn, Nat.le_trans h.hB hk.size, h.outer.later hk (fun e => ?_), ?_, h.outq.later hk (fun e => ?_), ?_, h.bq, h.pq, ?_, ?_, ?_⟩, ?_⟩
  · have := hg p e
    rw [h.mineP] at this
    omega
  · rw [give_old h.outer.lt]; exact h.mineP
  · have := hg q e
    rw [h.mineQ] at this
    omega
  · rw [give_old h.outq.lt]; exact h.mineQ
  · intro j x hx
    obtain ⟨hr, hm, hl⟩ := h.reads j x hx
    refine ⟨?_, hmine hm hl, fun b hb => Nat.lt_of_lt_of_le (hl b hb) hk.size⟩
    by_cases e : j = i
    · subst e
      obtain ⟨a, c, rfl, hc⟩ := hr
      refine ⟨a, c, rfl, fun r hr' => ?_⟩
      obtain ⟨gb, rfl, hce⟩ := hc r hr'
      refine ⟨gb, rfl, ?_⟩
      by_cases hsame : g.ownBlock = some gb
      · exact hs gb r _ hsame (by simp; omega) hce
      · rw [World.cell?_of_block (w := w) (hk.block gb (cell_lt hce) hsame)]
        exact hce
    · exact hr.keeps hk (hoff hm (by omega))
  · intro j x ht hx
    obtain ⟨_, hm, _⟩ := h.reads j x hx
    exact (h.todo j x ht hx).keeps hk (hoff hm (by omega))
  · intro j u hd hu
    obtain ⟨ho', hm⟩ := h.done j u hd hu
    exact ⟨ho'.keeps hk (hoff hm (by omega)), hmine hm ho'.lt⟩
  · intro b hvb
    rcases hb b hvb with e | e
    · rw [give_old (hgl b e)]; exact hg b e
    · exact give_new e

/-- the grown list is laid down -/
theorem Aq.put {i : Nat} {g : Value} (h : Aq B w0 ow0 own p q vs M (i + 1) i us w) (hg : Mine own (i + 1) g) (hgo : OwnB B w g (M i ++ P2 i 40)) (hi : i < us.length) :
    Aq B w0 ow0 own p q vs M (i + 1) (i + 1) (us.set i g) (w.setCell ⟨q, i, none⟩ g) := by
  have kk : Keeps (fun b => b = q) w (w.setCell ⟨q, i, none⟩ g) := (Keeps.refl _ _).setCell _ _ (fun _ => rfl)
  have hoff : ∀ {j : Nat} {x : Value}, Mine own (j + 1) x → ∀ b, x.ownBlock = some b → ¬ b = q := fun hm b hxb e => by
    have := hm b hxb
    rw [e, h.mineQ] at this
    omega
  refine ⟨h.below.trans (kk.below h.hB (fun b e => e ▸ h.bq)), h.ag, h.kp.next kk (fun b e hb => by subst e; exact absurd hb (Nat.not_lt.2 h.qn)), h.qn, Nat.le_trans h.hB kk.size, h.outer.later kk h.pq, h.mineP, h.outq.setCell i g, h.mineQ, h.bq, h.pq, ?_, ?_, ?_⟩
  · intro j x hx
    obtain ⟨hr, hm, hl⟩ := h.reads j x hx
    exact ⟨hr.keeps kk (hoff hm), hm, fun b hb => Nat.lt_of_lt_of_le (hl b hb) kk.size⟩
  · intro j x ht hx
    exact (h.todo j x ht hx).keeps kk (hoff (h.reads j x hx).2.1)
  · intro j u hd hu
    by_cases e : j = i
    · subst e
      rw [List.getElem?_set_self hi] at hu
      injection hu with hu
      subst hu
      exact ⟨hgo.keeps kk (hoff hg), hg⟩
    · rw [List.getElem?_set_ne (by omega)] at hu
      obtain ⟨ho', hm⟩ := h.done j u (by omega) hu
      exact ⟨ho'.keeps kk (hoff hm), hm⟩
end
end Go.Proofs.YteghehhifebhcaaDoor
