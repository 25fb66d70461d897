/-
  package fifo at ticket: All, its walk over things told by whatever list
-/
import Derived.Test.YtialmmobkmdfpaaDoorFifoDticket
namespace Go.Proofs.YtialmmobkmdfpaaDoor.Fticket
open Go.RowKit Go.Shelf

theorem all_stopsG {α : Type} (f : α → El × Nat) (ys : List α) (n n₀ b : Nat) (hn : 1 ≤ n) (v : Value) (q : List (El × Nat)) (w : World) (hc : w.cell? ⟨b, 0, none⟩ = some v) (hrow : w.ownsRow n₀ 107 (sz + 1) v q.length (flat q)) (hs : q.length ≤ 9223372036854775807) (hyq : q = ys.map f) :
    SeqStopsK Fence.wide n Tryd.prog 55 #[.pointer (some ⟨b, 0, none⟩)] (fun y => encs (f y)) (KeptAt (WalkB b v)) (fun xs => xs = ys) (fun pre => pre <+: ys) q.length w := by
  intro l J Jx W hW hJ hJx hY h0
  have hbl := World.block_lt_of_cell? w _ hc
  have hcW : W.cell? ⟨b, 0, none⟩ = some v := (hW.cell (p := ⟨b, 0, none⟩) hbl).trans hc
  have hrW := owns_later hrow (S := Nowhere) ⟨hW.os, hW.tape, hW.output, hW.size, fun k hk _ => hW.block k hk⟩ (fun _ _ x => x)
  have HQ : Aside (q = ys.map f ∧ ys.length = q.length) := ⟨hyq, by rw [hyq, List.length_map]⟩
  clear hyq
  have HJ : Aside _ := ⟨hJ⟩
  have HY : Aside _ := ⟨hY⟩
  have HR : Aside _ := ⟨hrW⟩
  have HB : Aside (∀ k, WalkB b v k → k < W.heap.size) := ⟨by
    rintro k (rfl | hk)
    · exact Nat.lt_of_lt_of_le hbl hW.size
    · exact owns_lt hrW k hk⟩
  clear hY hJ hJx hrow hc hW hbl
  rcases hrW.2 with ⟨rfl, hq0⟩ | ⟨g, cap, cur, rfl, _, _, hcap, hcm, _⟩
  · obtain rfl : q = [] := List.eq_nil_of_length_eq_zero hq0
    obtain rfl : ys = [] := List.eq_nil_of_length_eq_zero HQ.it.2
    clear hrW
    refine callsIn_of_wp Tryd.func55 rfl trivial ?_ rfl
    simp only [Tryd.ntmps55, List.size_toArray, List.length_cons, List.length_nil, Nat.reduceAdd, Nat.reduceSub, Array.replicate_succ, Array.replicate_zero, List.push_toArray, List.append_toArray, List.nil_append, List.cons_append]
    gi_wp2
    gi_loopw [7] (fun p wr => p = .int .i64 0 ∧ J [] wr) (fun _ _ => 0)
    case atStart => exact ⟨rfl, h0⟩
    case round =>
      obtain ⟨rfl, hj⟩ := hrel
      gi_wp2
      go_end0
      exact ⟨⟨_, rfl⟩, .inl ⟨[], rfl, hj⟩⟩
  · clear hrW
    obtain ⟨N, hN⟩ : ∃ N, N = q.length := ⟨_, rfl⟩
    rw [← hN] at hcW hcap hs
    have HN : Aside _ := ⟨hN⟩
    clear hN
    refine callsIn_of_wp Tryd.func55 rfl trivial ?_ rfl
    simp only [Tryd.ntmps55, List.size_toArray, List.length_cons, List.length_nil, Nat.reduceAdd, Nat.reduceSub, Array.replicate_succ, Array.replicate_zero, List.push_toArray, List.append_toArray, List.nil_append, List.cons_append]
    gi_wp2
    gi_loopw [7] (fun p wr => ∃ i : Nat, p = .int .i64 i ∧ i ≤ N ∧ J (ys.take i) wr ∧ KeptAt (WalkB b (.slice (some ⟨g, 0, none⟩) q.length cap)) W wr) (fun p _ => N - (intOf p).toNat)
    case atStart => exact ⟨0, rfl, Nat.zero_le _, h0, fun _ _ => rfl⟩
    case round =>
      obtain ⟨i, rfl, hi, hj, hk⟩ := hrel
      have HK : Aside _ := ⟨hk⟩
      clear hk
      rcases Nat.eq_or_lt_of_le hi with rfl | hlt
      · have hJ' : J ys wr := by rw [← List.take_length (l := ys), HQ.it.2, ← HN.it]; exact hj
        clear hj
        gi_wp2
        all_goals first
          | (exfalso; omega)
          | skip
        go_end0
        exact ⟨⟨_, rfl⟩, .inl ⟨ys, rfl, hJ'⟩⟩
      · have hlq : i < q.length := by rw [← HN.it]; exact hlt
        obtain ⟨y, hy0⟩ : ∃ y, ys[i]? = some y := ⟨_, List.getElem?_eq_getElem (by rw [HQ.it.2]; exact hlq)⟩
        obtain ⟨x, hxy⟩ : ∃ x, f y = x := ⟨_, rfl⟩
        have hx : q[i]? = some x := by rw [HQ.it.1, List.getElem?_map, hy0, ← hxy]; rfl
        have hcell : ∀ j u, j < sz + 1 → (fl x)[j]? = some u → wr.cell? ⟨g, i * (sz + 1) + j, none⟩ = some u := by
          intro j u hj' hu
          rw [World.cell?_of_block (w := W) (HK.it g (.inr rfl))]
          have := HR.it.cells rfl (i * (sz + 1) + j) u ((flat_at q i x hx j hj').trans hu)
          rwa [add_none, Nat.zero_add] at this
        have e0 : wr.cell? ⟨g, i * 2, none⟩ = some (.pointer (some ⟨x.1, 0, none⟩)) := hcell 0 _ (by decide) rfl
        have e1 : wr.cell? ⟨g, i * 2 + 1, none⟩ = some (.int .i64 x.2) := hcell 1 _ (by decide) rfl
        have hj2 : J (ys.take i) (wr.alloc (.cells #[.pointer (some ⟨x.1, 0, none⟩), .int .i64 x.2] 107)) := HJ.it _ _ _ none hj ⟨rfl, rfl, rfl, by simp, fun k hk _ => Below.heap_alloc wr _ k hk⟩ (fun r e => by cases e)
        have htk : ys.take i ++ [y] = ys.take (i + 1) := by rw [List.take_add_one, hy0]; rfl
        have hY' := HY.it (ys.take i) y _ hj2 (by rw [List.length_take]; omega)
        simp only [hxy] at hY'
        obtain ⟨fn, tmps, assign, body, hy, hR⟩ := hY'
        rw [htk] at hR
        have HT : Aside _ := ⟨htk⟩
        clear hcell hj hx htk hy0 hxy
        gi_wp2
        refine hR.mono ?_
        rintro e W3 (⟨rfl, hJ3, hk3⟩ | ⟨rfl, hJx3⟩)
        · have hk3' : KeptAt (WalkB b (.slice (some ⟨g, 0, none⟩) q.length cap)) wr W3 := fun k hk => (hk3 k hk).trans (Below.heap_alloc wr _ k (kept_lt HK.it (HB.it k hk) hk))
          have HK3 : Aside _ := ⟨hk3'⟩
          clear hk3 hk3'
          gi_wp2
          go_roundw
          case rel => exact ⟨i + 1, by go_num, by omega, hJ3, HK.it.trans HK3.it⟩
          case measure => simp [intOf]; omega
        · gi_wp2
          refine bodyPost_ret (results_none rfl _ _ _) rfl ?_
          exact ⟨⟨_, rfl⟩, .inr ⟨ys.take (i + 1), List.take_prefix _ _, hJx3⟩⟩
theorem WalkAt.keptG {α : Type} (f : α → El × Nat) (ys : List α) {n₀ : Nat} {w : World} {b : Nat} {q : List (El × Nat)} (h : WalkAt n₀ w (.func (.func 55) #[] #[.pointer (some ⟨b, 0, none⟩)]) q) (n : Nat) (hn : 1 ≤ n) (hs : q.length ≤ 9223372036854775807) (hyq : q = ys.map f) :
    ∃ B : Nat → Prop, SeqStopsK Fence.wide n Tryd.prog 55 #[.pointer (some ⟨b, 0, none⟩)] (fun y => encs (f y)) (KeptAt B) (fun xs => xs = ys) (fun pre => pre <+: ys) q.length w ∧ ∀ k, B k → n₀ ≤ k ∧ k < w.heap.size := by
  obtain ⟨b', v, he, hb, hc, hr⟩ := h.it
  injection he with _ _ he
  injection he with he
  injection he with he
  injection he with he
  injection he with he
  injection he with he
  subst he
  refine ⟨WalkB b v, all_stopsG f ys n n₀ b hn v q w hc hr hs hyq, ?_⟩
  rintro k (rfl | hk)
  · exact ⟨hb, World.block_lt_of_cell? w _ hc⟩
  · exact ⟨owns_base hr k hk, owns_lt hr k hk⟩
end Go.Proofs.YtialmmobkmdfpaaDoor.Fticket
