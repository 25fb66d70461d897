/-
  package fifo at int: what All's walk hands over
-/
import Derived.Test.YtnljgklmaljfjaaDoorFifoDint
import Derived.Test.YtnljgklmaljfjaaDoorRgL
namespace Go.Proofs.YtnljgklmaljfjaaDoor.Fint
open Go.RowKit Go.Shelf

/-- the walk lies in memory -/
structure WalkV (W : World) (b : Nat) (v : Value) (q : List (El × Nat)) : Prop where
  c : W.cell? ⟨b, 0, none⟩ = some v
  r : W.ownsRow 0 94 (sz + 1) v q.length (flat q)
theorem all_hands (n b : Nat) (v : Value) (q : List (El × Nat)) (hs : q.length ≤ 9223372036854775807) : Hands Fence.wide n Tryd.prog 42 #[.pointer (some ⟨b, 0, none⟩)] encs q (fun W => WalkV W b v q) := by
  intro l J Jx W hJ hWk hY h0
  obtain ⟨hcW, hrW⟩ := hWk [] W h0
  have HJ : Aside _ := ⟨hJ⟩
  have HY : Aside _ := ⟨hY⟩
  have HW : Aside _ := ⟨hWk⟩
  clear hY hJ hWk
  rcases hrW.2 with ⟨rfl, hq0⟩ | ⟨g, cap, cur, rfl, _, _, hcap, hcm, _⟩
  · obtain rfl : q = [] := List.eq_nil_of_length_eq_zero hq0
    clear hrW
    refine callsIn_of_wp Tryd.func42 rfl trivial ?_ rfl
    simp only [Tryd.ntmps42, List.size_toArray, List.length_cons, List.length_nil, Nat.reduceAdd, Nat.reduceSub, Array.replicate_succ, Array.replicate_zero, List.push_toArray, List.append_toArray, List.nil_append, List.cons_append]
    gi_wp2
    gi_loopw [7] (fun p wr => p = .int .i64 0 ∧ J [] wr) (fun _ _ => 0)
    case atStart => exact ⟨rfl, h0⟩
    case round =>
      obtain ⟨rfl, hj⟩ := hrel
      gi_wp2
      go_end0
      exact ⟨⟨_, rfl⟩, .inl hj⟩
  · clear hrW
    obtain ⟨N, hN⟩ : ∃ N, N = q.length := ⟨_, rfl⟩
    rw [← hN] at hcW hcap hs
    have HN : Aside _ := ⟨hN⟩
    clear hN
    refine callsIn_of_wp Tryd.func42 rfl trivial ?_ rfl
    simp only [Tryd.ntmps42, List.size_toArray, List.length_cons, List.length_nil, Nat.reduceAdd, Nat.reduceSub, Array.replicate_succ, Array.replicate_zero, List.push_toArray, List.append_toArray, List.nil_append, List.cons_append]
    gi_wp2
    gi_loopw [7] (fun p wr => ∃ i : Nat, p = .int .i64 i ∧ i ≤ N ∧ J (q.take i) wr) (fun p _ => N - (intOf p).toNat)
    case atStart => exact ⟨0, rfl, Nat.zero_le _, h0⟩
    case round =>
      obtain ⟨i, rfl, hi, hj⟩ := hrel
      rcases Nat.eq_or_lt_of_le hi with rfl | hlt
      · have hJ' : J q wr := by rw [← List.take_length (l := q), ← HN.it]; exact hj
        clear hj
        gi_wp2
        all_goals first
          | (exfalso; omega)
          | skip
        go_end0
        exact ⟨⟨_, rfl⟩, .inl hJ'⟩
      · have hlq : i < q.length := by rw [← HN.it]; exact hlt
        obtain ⟨x, hx⟩ : ∃ x, q[i]? = some x := ⟨_, List.getElem?_eq_getElem hlq⟩
        have hR := (HW.it _ _ hj).r
        have hcell : ∀ j u, j < sz + 1 → (fl x)[j]? = some u → wr.cell? ⟨g, i * (sz + 1) + j, none⟩ = some u := by
          intro j u hj' hu
          have := hR.cells rfl (i * (sz + 1) + j) u ((flat_at q i x hx j hj').trans hu)
          rwa [add_none, Nat.zero_add] at this
        have e0 : wr.cell? ⟨g, i * 2, none⟩ = some (.int .i64 x.1) := hcell 0 _ (by decide) rfl
        have e1 : wr.cell? ⟨g, i * 2 + 1, none⟩ = some (.int .i64 x.2) := hcell 1 _ (by decide) rfl
        have hj2 : J (q.take i) (wr.alloc (.cells #[.int .i64 x.1, .int .i64 x.2] 94)) := HJ.it _ _ _ hj ((Keeps.refl _ _).alloc _)
        have htk : q.take i ++ [x] = q.take (i + 1) := by rw [List.take_add_one, hx]; rfl
        obtain ⟨fn, tmps, assign, body, hy, hR2⟩ := HY.it (q.take i) x _ hj2 (List.take_prefix _ _) (by rw [List.length_take, Nat.min_eq_left (by omega)]; exact hx)
        rw [htk] at hR2
        have HT : Aside _ := ⟨htk⟩
        clear hcell hj hx htk hR
        gi_wp2
        refine ⟨fun e => (by cases e), hR2.mono ?_⟩
        rintro e W3 (⟨rfl, hJ3⟩ | ⟨rfl, hJx3⟩)
        · gi_wp2
          go_roundw
          case rel => exact ⟨i + 1, by go_num, by omega, hJ3⟩
          case measure => simp [intOf]; omega
        · gi_wp2
          refine bodyPost_ret (results_none rfl _ _ _) rfl ?_
          exact ⟨⟨_, rfl⟩, .inr ⟨q.take (i + 1), List.take_prefix _ _, hJx3⟩⟩
end Go.Proofs.YtnljgklmaljfjaaDoor.Fint
