/-
  package fifo at ticket: All
-/
import Derived.Test.YtialmmobkmdfpaaDoorFifoCticket
import Derived.RangeFuncNested
import Derived.RangeFuncBound
import Derived.RangeFuncCalls
import Derived.RangeFuncLeaves
import Derived.Shelf.Abstract
import Derived.Shelf.RegionOpen
import Derived.OwnWalkIn
import Derived.TacticsInMore
import Derived.LoopNIn
import Derived.LoopIn
namespace Go.Proofs.YtialmmobkmdfpaaDoor.Fticket
open Go.RowKit Go.Shelf

variable {w w' : World} {p rt rw : Nat} {q : List (El × Nat)} {v : Value} {first : Nat} {gone : List Value}

/-- what All answers: a walk over things that stood -/
structure WalkAt (n₀ : Nat) (w : World) (f : Value) (q : List (El × Nat)) : Prop where
  it : ∃ b v, f = .func (.func 55) #[] #[.pointer (some ⟨b, 0, none⟩)] ∧ n₀ ≤ b ∧ w.cell? ⟨b, 0, none⟩ = some v ∧ w.ownsRow n₀ 107 (sz + 1) v q.length (flat q)

theorem all_of (x : Value) (C : Hid (Calls Tryd.prog 54 #[x] w fun e w' => ∃ v2, e = .returned v2 ∧ Aside (w'.ownsRow w.heap.size 107 (sz + 1) v2 q.length (flat q)) ∧ Aside (Keeps Nowhere w w'))) :
    Calls Tryd.prog 33 #[x] w fun e w' => ∃ b, e = .returned (.func (.func 55) #[] #[.pointer (some ⟨b, 0, none⟩)]) ∧ Aside (WalkAt w.heap.size w' (.func (.func 55) #[] #[.pointer (some ⟨b, 0, none⟩)]) q) ∧ Aside (Keeps Nowhere w w') := by
  go_enter Tryd.func33, Tryd.ntmps33
  go_wp2_with fail
  refine C.out.mono ?_
  rintro e w1 ⟨v2, rfl, o1, k1⟩
  obtain ⟨x0, x1, x2, hx⟩ := owns_shapeK o1.it
  subst hx
  go_wp2
  go_ret
  refine ⟨w1.heap.size, rfl, ⟨⟨w1.heap.size, .slice x0 x1 x2, rfl, k1.it.size, ?_, ?_⟩⟩, ⟨k1.it.alloc _⟩⟩
  · exact (Cells.new w1 101 [.slice x0 x1 x2]).cell 0
  · exact owns_later o1.it ((Keeps.refl Nowhere w1).alloc _) (fun _ _ x => x)
theorem all_in (h : FifoIn w p rt rw q v first gone) (hb : q.length * by' ≤ 140737488355328) :
    Calls Tryd.prog 33 #[.pointer (some ⟨p, 0, none⟩)] w fun e w' => ∃ b, e = .returned (.func (.func 55) #[] #[.pointer (some ⟨b, 0, none⟩)]) ∧ Aside (WalkAt w.heap.size w' (.func (.func 55) #[] #[.pointer (some ⟨b, 0, none⟩)]) q) ∧ Aside (Keeps Nowhere w w') :=
  all_of _ (hide (copied_in h hb))
theorem all_nil (w : World) :
    Calls Tryd.prog 33 #[.pointer none] w fun e w' => ∃ b, e = .returned (.func (.func 55) #[] #[.pointer (some ⟨b, 0, none⟩)]) ∧ Aside (WalkAt w.heap.size w' (.func (.func 55) #[] #[.pointer (some ⟨b, 0, none⟩)]) []) ∧ Aside (Keeps Nowhere w w') :=
  all_of (q := []) _ (hide (copied_nil w))

theorem walk_not_nil (w : World) (b : Nat) : (binOp BinOp.eql 80 (.func (.func 55) #[] #[.pointer (some ⟨b, 0, none⟩)]) .nilFunc).run Tryd.prog w = .ok (.bool false) w := by
  kernel_rfl

/-- these blocks are as they were -/
def KeptAt (B : Nat → Prop) (W W' : World) : Prop := ∀ k, B k → W'.heap[k]? = W.heap[k]?
theorem KeptAt.trans {B : Nat → Prop} {a b c : World} (h : KeptAt B a b) (h' : KeptAt B b c) : KeptAt B a c := fun k hk => (h' k hk).trans (h k hk)
theorem keeps_grown {S : Nat → Prop} {w W W' : World} {row : Option Nat} (h : Keeps S w W) (hg : W.grownBy W' row) (hr : ∀ r, row = some r → w.heap.size ≤ r) : Keeps S w W' :=
  h.next (S' := fun k => row = some k) ⟨hg.os, hg.tape, hg.output, hg.size, fun k hk hn => hg.block k hk (fun e => hn e.symm)⟩ (fun k e hlt => by have := hr k e; omega)
theorem ownFrom_keeps {β : Type} (S : Nat → Prop) (w : World) : OwnFrom (β := β) w.heap.size (fun _ W => Keeps S w W) := fun _ _ _ _ hs hg hr => keeps_grown hs hg (fun r e => (hr r e).1)
theorem kept_t {B : Nat → Prop} : ∀ {a b c : World}, KeptAt B a b → KeptAt B b c → KeptAt B a c := fun h h' => h.trans h'
theorem kept_b {B : Nat → Prop} {n : Nat} (hB : ∀ k, B k → k < n) : ∀ (W : World) (l : Nat) (o o' : Obj), n ≤ l → W.heap[l]? = some o → o.isCells = false → o.isWalk = false → KeptAt B W (W.putObj l o') :=
  fun W l o o' hl _ _ _ k hk => World.putObj_heap_other (by have := hB k hk; omega)
theorem kept_lt {B : Nat → Prop} {a b : World} (h : KeptAt B a b) {k : Nat} (hk : k < a.heap.size) (hb : B k) : k < b.heap.size := by
  have := h k hb
  rw [Array.getElem?_eq_getElem hk] at this
  exact (Array.getElem?_eq_some_iff.1 this).1
/-- a walk's own blocks -/
def WalkB (b : Nat) (v : Value) : Nat → Prop := fun k => k = b ∨ v.ownBlock = some k
abbrev encs (x : El × Nat) : Array Value := #[.pointer (some ⟨x.1, 0, none⟩), .int .i64 x.2]

theorem all_stops (n n₀ b : Nat) (hn : 1 ≤ n) (v : Value) (q : List (El × Nat)) (w : World) (hc : w.cell? ⟨b, 0, none⟩ = some v) (hrow : w.ownsRow n₀ 107 (sz + 1) v q.length (flat q)) (hs : q.length ≤ 9223372036854775807) :
    SeqStopsK Fence.wide n Tryd.prog 55 #[.pointer (some ⟨b, 0, none⟩)] encs (KeptAt (WalkB b v)) (fun xs => xs = q) (fun pre => pre <+: q) q.length w := by
  intro l J Jx W hW hJ hJx hY h0
  have hbl := World.block_lt_of_cell? w _ hc
  have hcW : W.cell? ⟨b, 0, none⟩ = some v := (hW.cell (p := ⟨b, 0, none⟩) hbl).trans hc
  have hrW := owns_later hrow (S := Nowhere) ⟨hW.os, hW.tape, hW.output, hW.size, fun k hk _ => hW.block k hk⟩ (fun _ _ x => x)
  have HJ : Aside _ := ⟨hJ⟩
  have HY : Aside _ := ⟨hY⟩
  have HR : Aside _ := ⟨hrW⟩
  have HB : Aside (∀ k, WalkB b v k → k < W.heap.size) := ⟨by
    rintro k (rfl | hk)
    · exact Nat.lt_of_lt_of_le hbl hW.size
    · exact owns_lt hrW k hk⟩
  clear hY hJ hJx hrow hc hW hbl
  rcases hrW.2 with ⟨rfl, hq0⟩ | ⟨g, cap, cur, rfl, _, _, hcap, hcm, _⟩
  · obtain rfl : q = [] := List.eq_nil_of_length_eq_zero hq0
    clear hrW
    refine callsIn_of_wp Tryd.func55 rfl trivial ?_ rfl
    simp only [Tryd.ntmps55, List.size_toArray, List.length_cons, List.length_nil, Nat.reduceAdd, Nat.reduceSub, Array.replicate_succ, Array.replicate_zero, List.push_toArray, List.append_toArray, List.nil_append, List.cons_append]
    gi_wp2
    gi_loopw [7] (fun p wr => p = .int .i64 0 ∧ J [] wr) (fun _ _ => 0)
    case atStart => exact ⟨rfl, h0⟩
    case round =>
      obtain ⟨rfl, hj⟩ := hrel
      gi_wp2
      go_end0
      exact ⟨⟨_, rfl⟩, .inl ⟨[], rfl, hj⟩⟩
  · clear hrW
    obtain ⟨N, hN⟩ : ∃ N, N = q.length := ⟨_, rfl⟩
    rw [← hN] at hcW hcap hs
    have HN : Aside _ := ⟨hN⟩
    clear hN
    refine callsIn_of_wp Tryd.func55 rfl trivial ?_ rfl
    simp only [Tryd.ntmps55, List.size_toArray, List.length_cons, List.length_nil, Nat.reduceAdd, Nat.reduceSub, Array.replicate_succ, Array.replicate_zero, List.push_toArray, List.append_toArray, List.nil_append, List.cons_append]
    gi_wp2
    gi_loopw [7] (fun p wr => ∃ i : Nat, p = .int .i64 i ∧ i ≤ N ∧ J (q.take i) wr ∧ KeptAt (WalkB b (.slice (some ⟨g, 0, none⟩) q.length cap)) W wr) (fun p _ => N - (intOf p).toNat)
    case atStart => exact ⟨0, rfl, Nat.zero_le _, h0, fun _ _ => rfl⟩
    case round =>
      obtain ⟨i, rfl, hi, hj, hk⟩ := hrel
      have HK : Aside _ := ⟨hk⟩
      clear hk
      rcases Nat.eq_or_lt_of_le hi with rfl | hlt
      · have hJ' : J q wr := by rw [← List.take_length (l := q), ← HN.it]; exact hj
        clear hj
        gi_wp2
        all_goals first
          | (exfalso; omega)
          | skip
        go_end0
        exact ⟨⟨_, rfl⟩, .inl ⟨q, rfl, hJ'⟩⟩
      · have hlq : i < q.length := by rw [← HN.it]; exact hlt
        obtain ⟨x, hx⟩ : ∃ x, q[i]? = some x := ⟨_, List.getElem?_eq_getElem hlq⟩
        have hcell : ∀ j u, j < sz + 1 → (fl x)[j]? = some u → wr.cell? ⟨g, i * (sz + 1) + j, none⟩ = some u := by
          intro j u hj' hu
          rw [World.cell?_of_block (w := W) (HK.it g (.inr rfl))]
          have := HR.it.cells rfl (i * (sz + 1) + j) u ((flat_at q i x hx j hj').trans hu)
          rwa [add_none, Nat.zero_add] at this
        have e0 : wr.cell? ⟨g, i * 2, none⟩ = some (.pointer (some ⟨x.1, 0, none⟩)) := hcell 0 _ (by decide) rfl
        have e1 : wr.cell? ⟨g, i * 2 + 1, none⟩ = some (.int .i64 x.2) := hcell 1 _ (by decide) rfl
        have hj2 : J (q.take i) (wr.alloc (.cells #[.pointer (some ⟨x.1, 0, none⟩), .int .i64 x.2] 107)) := HJ.it _ _ _ none hj ⟨rfl, rfl, rfl, by simp, fun k hk _ => Below.heap_alloc wr _ k hk⟩ (fun r e => by cases e)
        have htk : q.take i ++ [x] = q.take (i + 1) := by rw [List.take_add_one, hx]; rfl
        obtain ⟨fn, tmps, assign, body, hy, hR⟩ := HY.it (q.take i) x _ hj2 (by rw [List.length_take]; omega)
        rw [htk] at hR
        have HT : Aside _ := ⟨htk⟩
        clear hcell hj hx htk
        gi_wp2
        refine hR.mono ?_
        rintro e W3 (⟨rfl, hJ3, hk3⟩ | ⟨rfl, hJx3⟩)
        · have hk3' : KeptAt (WalkB b (.slice (some ⟨g, 0, none⟩) q.length cap)) wr W3 := fun k hk => (hk3 k hk).trans (Below.heap_alloc wr _ k (kept_lt HK.it (HB.it k hk) hk))
          have HK3 : Aside _ := ⟨hk3'⟩
          clear hk3 hk3'
          gi_wp2
          go_roundw
          case rel => exact ⟨i + 1, by go_num, by omega, hJ3, HK.it.trans HK3.it⟩
          case measure => simp [intOf]; omega
        · gi_wp2
          refine bodyPost_ret (results_none rfl _ _ _) rfl ?_
          exact ⟨⟨_, rfl⟩, .inr ⟨q.take (i + 1), List.take_prefix _ _, hJx3⟩⟩
theorem WalkAt.kept {n₀ : Nat} {w : World} {b : Nat} {q : List (El × Nat)} (h : WalkAt n₀ w (.func (.func 55) #[] #[.pointer (some ⟨b, 0, none⟩)]) q) (n : Nat) (hn : 1 ≤ n) (hs : q.length ≤ 9223372036854775807) :
    ∃ B : Nat → Prop, SeqStopsK Fence.wide n Tryd.prog 55 #[.pointer (some ⟨b, 0, none⟩)] encs (KeptAt B) (fun xs => xs = q) (fun pre => pre <+: q) q.length w ∧ ∀ k, B k → n₀ ≤ k ∧ k < w.heap.size := by
  obtain ⟨b', v, he, hb, hc, hr⟩ := h.it
  injection he with _ _ he
  injection he with he
  injection he with he
  injection he with he
  injection he with he
  injection he with he
  subst he
  refine ⟨WalkB b v, all_stops n n₀ b hn v q w hc hr hs, ?_⟩
  rintro k (rfl | hk)
  · exact ⟨hb, World.block_lt_of_cell? w _ hc⟩
  · exact ⟨owns_base hr k hk, owns_lt hr k hk⟩
end Go.Proofs.YtialmmobkmdfpaaDoor.Fticket
