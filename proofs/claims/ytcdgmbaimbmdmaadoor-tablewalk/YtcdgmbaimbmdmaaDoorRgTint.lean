/-
  package table at int: what All's walk hands over
-/
import Derived.Test.YtcdgmbaimbmdmaaDoorTbEint
import Derived.Test.YtcdgmbaimbmdmaaDoorRgL
namespace Go.Proofs.YtcdgmbaimbmdmaaDoor.Tbint
open Go.RowKit Go.Shelf

/-- the walk lies in memory -/
structure WalkV (W : World) (bi bs : Nat) (vi vs : Value) (L : Tl Int) : Prop where
  c : W.cell? ⟨bi, 0, none⟩ = some vi
  d : W.cell? ⟨bs, 0, none⟩ = some vs
  r : W.ownsRow 0 36 1 vi L.length ((ks L).map e32)
  s : W.ownsRow 0 3 1 vs L.length (L.map (fun x => vv x.2))
set_option maxHeartbeats 1000000 in
theorem all_hands (n bi bs : Nat) (vi vs : Value) (L : Tl Int) (hs : L.length ≤ 9223372036854775807) : Hands Fence.wide n Tryd.prog 24 #[ptr bi, ptr bs] encs L (fun W => WalkV W bi bs vi vs L) := by
  intro l J Jx W hJ hWk hY h0
  obtain ⟨hcW, _, hrW, _⟩ := hWk [] W h0
  have HY : Aside _ := ⟨hY⟩
  have HW : Aside _ := ⟨hWk⟩
  clear hY hJ hWk
  rcases hrW.2 with ⟨rfl, hq0⟩ | ⟨g, cap, cur, rfl, _, _, hcap, hcm, _⟩
  · obtain rfl : L = [] := List.eq_nil_of_length_eq_zero hq0
    clear hrW
    refine callsIn_of_wp Tryd.func24 rfl trivial ?_ rfl
    simp only [Tryd.ntmps24, List.size_toArray, List.length_cons, List.length_nil, Nat.reduceAdd, Nat.reduceSub, Array.replicate_succ, Array.replicate_zero, List.push_toArray, List.append_toArray, List.nil_append, List.cons_append]
    gi_wp2
    gi_loopw [8] (fun p wr => p = .int .i64 0 ∧ J [] wr) (fun _ _ => 0)
    case atStart => exact ⟨rfl, h0⟩
    case round =>
      obtain ⟨rfl, hj⟩ := hrel
      gi_wp2
      go_end0
      exact ⟨⟨_, rfl⟩, .inl hj⟩
  · clear hrW
    obtain ⟨N, hN⟩ : ∃ N, N = L.length := ⟨_, rfl⟩
    rw [← hN] at hcW hcap hs
    have HN : Aside _ := ⟨hN⟩
    clear hN
    refine callsIn_of_wp Tryd.func24 rfl trivial ?_ rfl
    simp only [Tryd.ntmps24, List.size_toArray, List.length_cons, List.length_nil, Nat.reduceAdd, Nat.reduceSub, Array.replicate_succ, Array.replicate_zero, List.push_toArray, List.append_toArray, List.nil_append, List.cons_append]
    gi_wp2
    gi_loopw [8] (fun p wr => ∃ i : Nat, p = .int .i64 i ∧ i ≤ N ∧ J (L.take i) wr) (fun p _ => N - (intOf p).toNat)
    case atStart => exact ⟨0, rfl, Nat.zero_le _, h0⟩
    case round =>
      obtain ⟨i, rfl, hi, hj⟩ := hrel
      rcases Nat.eq_or_lt_of_le hi with rfl | hlt
      · have hJ' : J L wr := by rw [← List.take_length (l := L), ← HN.it]; exact hj
        clear hj
        gi_wp2
        all_goals first
          | (exfalso; omega)
          | skip
        go_end0
        exact ⟨⟨_, rfl⟩, .inl hJ'⟩
      · have hlq : i < L.length := by rw [← HN.it]; exact hlt
        obtain ⟨x, hx⟩ : ∃ x, L[i]? = some x := ⟨_, List.getElem?_eq_getElem hlq⟩
        have hR := Aside.mk (HW.it _ _ hj)
        have e0 : wr.cell? ⟨g, i, none⟩ = some (.int .u32 (x.1 : Nat)) := by
          have := hR.it.r.cells rfl i (e32 x.1) (by rw [List.getElem?_map]; unfold ks; rw [List.getElem?_map, hx]; rfl)
          rwa [add_none, Nat.zero_add] at this
        obtain ⟨gs, cs, rfl⟩ : ∃ gs cs, vs = .slice (some ⟨gs, 0, none⟩) L.length cs := by
          rcases hR.it.s.2 with ⟨_, h⟩ | ⟨gs, cs, cur', h, _⟩
          · omega
          · exact ⟨gs, cs, h⟩
        have hcap2 : N ≤ cs := by
          rcases hR.it.s.2 with ⟨h, _⟩ | ⟨gs', cs', cur', h, _, _, h1, _⟩
          · cases h
          · cases h; rw [HN.it]; exact h1
        have e1 : wr.cell? ⟨bs, 0, none⟩ = some (.slice (some ⟨gs, 0, none⟩) N cs) := by
          rw [hR.it.d, HN.it]
        have e2 : wr.cell? ⟨gs, i, none⟩ = some (.int .i64 x.2) := by
          have := hR.it.s.cells rfl i (vv x.2) (by rw [List.getElem?_map, hx]; rfl)
          rwa [add_none, Nat.zero_add] at this
        have htk : L.take i ++ [x] = L.take (i + 1) := by rw [List.take_add_one, hx]; rfl
        obtain ⟨fn, tmps, assign, body, hy, hR2⟩ := HY.it (L.take i) x _ hj (List.take_prefix _ _) (by rw [List.length_take, Nat.min_eq_left (by omega)]; exact hx)
        rw [htk] at hR2
        have HT : Aside _ := ⟨htk⟩
        clear hj hx htk hR
        gi_wp2
        first
          | refine ⟨fun e => (by cases e), hR2.mono ?_⟩
          | refine hR2.mono ?_
        rintro e W3 (⟨rfl, hJ3⟩ | ⟨rfl, hJx3⟩)
        · gi_wp2
          go_roundw
          case rel => exact ⟨i + 1, by go_num, by omega, hJ3⟩
          case measure => simp [intOf]; omega
        · gi_wp2
          refine bodyPost_ret (results_none rfl _ _ _) rfl ?_
          exact ⟨⟨_, rfl⟩, .inr ⟨L.take (i + 1), List.take_prefix _ _, hJx3⟩⟩
end Go.Proofs.YtcdgmbaimbmdmaaDoor.Tbint
