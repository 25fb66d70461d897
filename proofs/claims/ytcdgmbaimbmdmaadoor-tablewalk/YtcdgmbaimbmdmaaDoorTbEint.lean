/-
  package table at int: the walk that All answers
-/
import Derived.Test.YtcdgmbaimbmdmaaDoorTbDint
import Derived.RangeFuncNested
import Derived.RangeFuncBound
import Derived.RangeFuncCalls
import Derived.RangeFuncLeaves
import Derived.Shelf.Abstract
import Derived.Shelf.RegionOpen
import Derived.OwnWalkIn
import Derived.TacticsInMore
import Derived.LoopNIn
import Derived.LoopIn
namespace Go.Proofs.YtcdgmbaimbmdmaaDoor.Tbint
open Go.RowKit Go.Shelf

variable {w w' : World} {L : Tl Int}

theorem walk_not_nil (w : World) (bi bs : Nat) : (binOp BinOp.eql 40 (.func (.func 24) #[] #[ptr bi, ptr bs]) .nilFunc).run Tryd.prog w = .ok (.bool false) w := by
  kernel_rfl

/-- these blocks are as they were -/
def KeptAt (B : Nat → Prop) (W W' : World) : Prop := ∀ k, B k → W'.heap[k]? = W.heap[k]?
theorem KeptAt.trans {B : Nat → Prop} {a b c : World} (h : KeptAt B a b) (h' : KeptAt B b c) : KeptAt B a c := fun k hk => (h' k hk).trans (h k hk)
theorem keeps_grown {S : Nat → Prop} {w W W' : World} {row : Option Nat} (h : Keeps S w W) (hg : W.grownBy W' row) (hr : ∀ r, row = some r → w.heap.size ≤ r) : Keeps S w W' :=
  h.next (S' := fun k => row = some k) ⟨hg.os, hg.tape, hg.output, hg.size, fun k hk hn => hg.block k hk (fun e => hn e.symm)⟩ (fun k e hlt => by have := hr k e; omega)
theorem kept_t {B : Nat → Prop} : ∀ {a b c : World}, KeptAt B a b → KeptAt B b c → KeptAt B a c := fun h h' => h.trans h'
theorem kept_b {B : Nat → Prop} {n : Nat} (hB : ∀ k, B k → k < n) : ∀ (W : World) (l : Nat) (o o' : Obj), n ≤ l → W.heap[l]? = some o → o.isCells = false → o.isWalk = false → KeptAt B W (W.putObj l o') :=
  fun W l o o' hl _ _ _ k hk => World.putObj_heap_other (by have := hB k hk; omega)
theorem kept_lt {B : Nat → Prop} {a b : World} (h : KeptAt B a b) {k : Nat} (hk : k < a.heap.size) (hb : B k) : k < b.heap.size := by
  have := h k hb
  rw [Array.getElem?_eq_getElem hk] at this
  exact (Array.getElem?_eq_some_iff.1 this).1
/-- a walk's own blocks -/
def WalkB (bi bs : Nat) (vi vs : Value) : Nat → Prop := fun k => k = bi ∨ k = bs ∨ vi.ownBlock = some k ∨ vs.ownBlock = some k
abbrev encs (x : Nat × Int) : Array Value := #[e32 x.1, .int .i64 x.2]

set_option maxHeartbeats 1000000 in
theorem all_stops (n n₀ bi bs : Nat) (hn : 1 ≤ n) (vi vs : Value) (L : Tl Int) (w : World) (hc : w.cell? ⟨bi, 0, none⟩ = some vi) (hcs : w.cell? ⟨bs, 0, none⟩ = some vs) (hrow : w.ownsRow n₀ 36 1 vi L.length ((ks L).map e32)) (hrows : w.ownsRow n₀ 3 1 vs L.length (L.map (fun x => vv x.2))) (hs : L.length ≤ 9223372036854775807) :
    SeqStopsK Fence.wide n Tryd.prog 24 #[ptr bi, ptr bs] encs (KeptAt (WalkB bi bs vi vs)) (fun xs => xs = L) (fun pre => pre <+: L) L.length w := by
  intro l J Jx W hW hJ hJx hY h0
  have hbl := World.block_lt_of_cell? w _ hc
  have hbl2 := World.block_lt_of_cell? w _ hcs
  have hcW : W.cell? ⟨bi, 0, none⟩ = some vi := (hW.cell (p := ⟨bi, 0, none⟩) hbl).trans hc
  have hcW2 : W.cell? ⟨bs, 0, none⟩ = some vs := (hW.cell (p := ⟨bs, 0, none⟩) hbl2).trans hcs
  have hrW := owns_later hrow (S := Nowhere) ⟨hW.os, hW.tape, hW.output, hW.size, fun k hk _ => hW.block k hk⟩ (fun _ _ x => x)
  have hrW2 := owns_later hrows (S := Nowhere) ⟨hW.os, hW.tape, hW.output, hW.size, fun k hk _ => hW.block k hk⟩ (fun _ _ x => x)
  have HJ : Aside _ := ⟨hJ⟩
  have HY : Aside _ := ⟨hY⟩
  have HR : Aside _ := ⟨hrW⟩
  have HR2 : Aside _ := ⟨hrW2⟩
  have HB : Aside (∀ k, WalkB bi bs vi vs k → k < W.heap.size) := ⟨by
    rintro k (rfl | rfl | hk | hk)
    · exact Nat.lt_of_lt_of_le hbl hW.size
    · exact Nat.lt_of_lt_of_le hbl2 hW.size
    · exact owns_lt hrW k hk
    · exact owns_lt hrW2 k hk⟩
  have HC2 := Aside.mk hcW2
  clear hY hJ hJx hrow hrows hc hcs hW hbl hbl2 hrW2 hcW2
  rcases hrW.2 with ⟨rfl, hq0⟩ | ⟨g, cap, cur, rfl, _, _, hcap, hcm, _⟩
  · obtain rfl : L = [] := List.eq_nil_of_length_eq_zero hq0
    clear hrW
    refine callsIn_of_wp Tryd.func24 rfl trivial ?_ rfl
    simp only [Tryd.ntmps24, List.size_toArray, List.length_cons, List.length_nil, Nat.reduceAdd, Nat.reduceSub, Array.replicate_succ, Array.replicate_zero, List.push_toArray, List.append_toArray, List.nil_append, List.cons_append]
    gi_wp2
    gi_loopw [8] (fun p wr => p = .int .i64 0 ∧ J [] wr) (fun _ _ => 0)
    case atStart => exact ⟨rfl, h0⟩
    case round =>
      obtain ⟨rfl, hj⟩ := hrel
      gi_wp2
      go_end0
      exact ⟨⟨_, rfl⟩, .inl ⟨[], rfl, hj⟩⟩
  · clear hrW
    obtain ⟨N, hN⟩ : ∃ N, N = L.length := ⟨_, rfl⟩
    rw [← hN] at hcW hcap hs
    have HN : Aside _ := ⟨hN⟩
    clear hN
    refine callsIn_of_wp Tryd.func24 rfl trivial ?_ rfl
    simp only [Tryd.ntmps24, List.size_toArray, List.length_cons, List.length_nil, Nat.reduceAdd, Nat.reduceSub, Array.replicate_succ, Array.replicate_zero, List.push_toArray, List.append_toArray, List.nil_append, List.cons_append]
    gi_wp2
    gi_loopw [8] (fun p wr => ∃ i : Nat, p = .int .i64 i ∧ i ≤ N ∧ J (L.take i) wr ∧ KeptAt (WalkB bi bs (.slice (some ⟨g, 0, none⟩) L.length cap) vs) W wr) (fun p _ => N - natOf p)
    case atStart => exact ⟨0, rfl, Nat.zero_le _, h0, fun _ _ => rfl⟩
    case round =>
      obtain ⟨i, rfl, hi, hj, hk⟩ := hrel
      have HK : Aside _ := ⟨hk⟩
      clear hk
      rcases Nat.eq_or_lt_of_le hi with rfl | hlt
      · have hJ' : J L wr := by rw [← List.take_length (l := L), ← HN.it]; exact hj
        clear hj
        gi_wp2
        all_goals first
          | (exfalso; omega)
          | skip
        go_end0
        exact ⟨⟨_, rfl⟩, .inl ⟨L, rfl, hJ'⟩⟩
      · have hlq : i < L.length := by rw [← HN.it]; exact hlt
        obtain ⟨x, hx⟩ : ∃ x, L[i]? = some x := ⟨_, List.getElem?_eq_getElem hlq⟩
        have e0 : wr.cell? ⟨g, i, none⟩ = some (.int .u32 (x.1 : Nat)) := by
          rw [World.cell?_of_block (w := W) (HK.it g (.inr (.inr (.inl rfl))))]
          have := HR.it.cells rfl i (e32 x.1) (by rw [List.getElem?_map]; unfold ks; rw [List.getElem?_map, hx]; rfl)
          rwa [add_none, Nat.zero_add] at this
        obtain ⟨gs, cs, rfl⟩ : ∃ gs cs, vs = .slice (some ⟨gs, 0, none⟩) L.length cs := by
          rcases HR2.it.2 with ⟨_, h⟩ | ⟨gs, cs, cur', h, _⟩
          · omega
          · exact ⟨gs, cs, h⟩
        have hcap2 : N ≤ cs := by
          rcases HR2.it.2 with ⟨h, _⟩ | ⟨gs', cs', cur', h, _, _, h1, _⟩
          · cases h
          · cases h; rw [HN.it]; exact h1
        have e1 : wr.cell? ⟨bs, 0, none⟩ = some (.slice (some ⟨gs, 0, none⟩) N cs) := by
          rw [World.cell?_of_block (w := W) (HK.it bs (.inr (.inl rfl))), HC2.it, HN.it]
        have e2 : wr.cell? ⟨gs, i, none⟩ = some (.int .i64 x.2) := by
          rw [World.cell?_of_block (w := W) (HK.it gs (.inr (.inr (.inr rfl))))]
          have := HR2.it.cells rfl i (vv x.2) (by rw [List.getElem?_map, hx]; rfl)
          rwa [add_none, Nat.zero_add] at this
        have htk : L.take i ++ [x] = L.take (i + 1) := by rw [List.take_add_one, hx]; rfl
        obtain ⟨fn, tmps, assign, body, hy, hR⟩ := HY.it (L.take i) x _ hj (by rw [List.length_take]; omega)
        rw [htk] at hR
        have HT : Aside _ := ⟨htk⟩
        clear hj hx htk
        gi_wp2
        refine hR.mono ?_
        rintro e W3 (⟨rfl, hJ3, hk3⟩ | ⟨rfl, hJx3⟩)
        · have HK3 : Aside _ := ⟨hk3⟩
          clear hk3
          gi_wp2
          go_roundw
          case rel => exact ⟨i + 1, by go_num, by omega, hJ3, HK.it.trans HK3.it⟩
          case measure => simp [natOf]; omega
        · gi_wp2
          refine bodyPost_ret (results_none rfl _ _ _) rfl ?_
          exact ⟨⟨_, rfl⟩, .inr ⟨L.take (i + 1), List.take_prefix _ _, hJx3⟩⟩
theorem WalkT.kept {n₀ bi bs : Nat} (h : WalkT n₀ w bi bs L) (n : Nat) (hn : 1 ≤ n) (hs : L.length ≤ 9223372036854775807) :
    ∃ B : Nat → Prop, SeqStopsK Fence.wide n Tryd.prog 24 #[ptr bi, ptr bs] encs (KeptAt B) (fun xs => xs = L) (fun pre => pre <+: L) L.length w ∧ ∀ k, B k → n₀ ≤ k ∧ k < w.heap.size := by
  obtain ⟨vi, vs, h1, h2, hc, hcs, hr, hrs⟩ := h.it
  refine ⟨WalkB bi bs vi vs, all_stops n n₀ bi bs hn vi vs L w hc hcs hr hrs hs, ?_⟩
  rintro k (rfl | rfl | hk | hk)
  · exact ⟨h1, World.block_lt_of_cell? w _ hc⟩
  · exact ⟨h2, World.block_lt_of_cell? w _ hcs⟩
  · exact ⟨owns_base hr k hk, owns_lt hr k hk⟩
  · exact ⟨owns_base hrs k hk, owns_lt hrs k hk⟩
end Go.Proofs.YtcdgmbaimbmdmaaDoor.Tbint
