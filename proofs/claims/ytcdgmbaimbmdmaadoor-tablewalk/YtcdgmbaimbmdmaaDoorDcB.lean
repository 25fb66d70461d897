/-
  the document's table: IDs, Above, Drop
-/
import Derived.Test.YtcdgmbaimbmdmaaDoorDcA
namespace Go.Proofs.YtcdgmbaimbmdmaaDoor
open Go.RowKit Tbint

variable {w w' W : World} {own own' : Nat → Nat} {v : Value} {L : Tl Int} {I : Nat → Prop}

theorem drop_at_cons {L : Tl Int} {j : Nat} {x : Nat × Int} (hx : L[j]? = some x) : L.drop j = x :: L.drop (j + 1) := by
  have hjl : j < L.length := (List.getElem?_eq_some_iff.1 hx).1
  rw [List.drop_eq_getElem_cons hjl]
  rw [List.getElem?_eq_getElem hjl] at hx
  simp only [Option.some.injEq] at hx
  rw [hx]
theorem take_snoc {L : Tl Int} {j : Nat} {x : Nat × Int} (hx : L[j]? = some x) : L.take (j + 1) = L.take j ++ [x] := by rw [List.take_add_one, hx]; rfl

def aboveL (lo : Nat) (m : Int) (L : Tl Int) : Nat := L.countP (fun x => decide (lo ≤ x.1) && decide (m ≤ x.2))

set_option maxHeartbeats 1000000 in
theorem dabove (room : Int) (lo : Nat) (m : Int) (h : RdD own w v L) (hl : L.length ≤ 4294967296) :
    Calls Tryd.prog 30 #[.agg #[.int .i64 room, v], .int .u32 lo, .int .i64 m] w fun e w' => e = .returned (.int .i64 (aboveL lo m L)) ∧ Aside (Keeps Nowhere w w') := by
  obtain ⟨a, c, rfl, hlc, hc⟩ := h
  obtain ⟨n, hn⟩ : ∃ n, L.length = n := ⟨_, rfl⟩
  have HN := Aside.mk hn
  rw [hn] at hlc hl ⊢
  have K1 := Aside.mk ((Keeps.refl Nowhere w).alloc (.cells #[.int .i64 room, .slice a n c] 31))
  have c1 : (w.alloc (.cells #[.int .i64 room, .slice a n c] 31)).cell? ⟨w.heap.size, 1, none⟩ = some (.slice a n c) := by rw [(Cells.new w _ _).cell]; rfl
  have HC := Aside.mk hc
  obtain ⟨bx, hbx⟩ : ∃ bx, w.heap.size = bx := ⟨_, rfl⟩
  obtain ⟨W1, hW1⟩ : ∃ W1, (w.alloc (.cells #[.int .i64 room, .slice a n c] 31)) = W1 := ⟨_, rfl⟩
  rw [hW1] at K1 c1
  rw [hbx] at c1
  clear hc hn
  go_enter Tryd.func30, Tryd.ntmps30
  go_upto_region 3 with fail
  clear hW1 hbx
  go_loopw [7, 8] (fun vc v wr => ∃ j q : Nat, vc = .int .i64 q ∧ v = .int .i64 j ∧ j ≤ n ∧ q ≤ j ∧ wr = W1 ∧ q + aboveL lo m (L.drop j) = aboveL lo m L) (fun _ v _ => n - natOf v)
  case atStart => exact ⟨0, 0, rfl, rfl, Nat.zero_le _, Nat.le_refl _, rfl, by simp⟩
  case round =>
    obtain ⟨j, q, rfl, rfl, hj, hq, rfl, ht⟩ := hrel
    rcases Nat.eq_or_lt_of_le hj with rfl | hlt
    · rw [List.drop_eq_nil_of_le (by rw [HN.it]; exact Nat.le_refl _)] at ht
      have HT := Aside.mk (show aboveL lo m L = q by rw [← ht]; simp [aboveL])
      clear ht
      go_wp2_with fail
      go_ret
      rw [HT.it]
      exact ⟨rfl, K1⟩
    · obtain ⟨x, hx⟩ : ∃ x, L[j]? = some x := ⟨_, List.getElem?_eq_getElem (by rw [HN.it]; exact hlt)⟩
      obtain ⟨g, rfl, _, y0, y1⟩ := HC.it j x hx
      have z0 : wr.cell? ⟨g, j * 2, none⟩ = some (.int .u32 (x.1 : Nat)) := by rw [World.cell?_of_block (w := w) (K1.it.block g (World.block_lt_of_cell? w _ y0) (fun x => x))]; exact y0
      have z1 : wr.cell? ⟨g, j * 2 + 1, none⟩ = some (.int .i64 x.2) := by rw [World.cell?_of_block (w := w) (K1.it.block g (World.block_lt_of_cell? w _ y0) (fun x => x))]; exact y1
      have ht2 : q + ((if (decide (lo ≤ x.1) && decide (m ≤ x.2)) = true then 1 else 0) + aboveL lo m (L.drop (j + 1))) = aboveL lo m L := by
        rw [← ht, drop_at_cons hx]
        unfold aboveL
        rw [List.countP_cons]
        omega
      have HT := Aside.mk ht2
      clear ht ht2 hx y0 y1
      by_cases h1 : lo ≤ x.1
      · by_cases h2 : m ≤ x.2
        · have h1d : decide (lo ≤ x.1) = true := decide_eq_true h1
          have h2d : decide (m ≤ x.2) = true := decide_eq_true h2
          rw [h1d, h2d] at HT
          go_wp2_with fail
          go_roundw
          case rel => exact ⟨j + 1, q + 1, by go_num, by go_num, by omega, by omega, by trivial, by have := HT.it; simp at this; omega⟩
          case measure => simp [natOf]; omega
        · have h1d : decide (lo ≤ x.1) = true := decide_eq_true h1
          have h2d : decide (m ≤ x.2) = false := decide_eq_false h2
          rw [h1d, h2d] at HT
          go_wp2_with fail
          go_roundw
          case rel => exact ⟨j + 1, q, rfl, by go_num, by omega, by omega, by trivial, by have := HT.it; simp at this; omega⟩
          case measure => simp [natOf]; omega
      · have h1d : decide (lo ≤ x.1) = false := decide_eq_false h1
        rw [h1d] at HT
        go_wp2_with fail
        go_roundw
        case rel => exact ⟨j + 1, q, rfl, by go_num, by omega, by omega, by trivial, by have := HT.it; simp at this; omega⟩
        case measure => simp [natOf]; omega

set_option maxRecDepth 20000 in
set_option maxHeartbeats 1000000 in
theorem dids (room : Int) (h : RdD own w v L) (hl : L.length ≤ 4294967296) :
    Calls Tryd.prog 20 #[.agg #[.int .i64 room, v]] w fun e w' => ∃ v', e = .returned v' ∧ Aside (RdU w' v' (ks L)) ∧ Aside (Keeps Nowhere w w') := by
  obtain ⟨a, c, rfl, hlc, hc⟩ := h
  obtain ⟨n, hn⟩ : ∃ n, L.length = n := ⟨_, rfl⟩
  have HN := Aside.mk hn
  rw [hn] at hlc hl ⊢
  obtain ⟨i0, hi, hz0, hz1, hz2⟩ := info_parts u32info
  have K1 := Aside.mk ((Keeps.refl Nowhere w).alloc (.cells #[.int .i64 room, .slice a n c] 31))
  have C1 := Aside.mk (Cells.new w 31 [.int .i64 room, .slice a n c])
  have HC := Aside.mk hc
  have hmx : n ≤ maxLen := Nat.le_trans hl (by decide)
  obtain ⟨bx, hbx⟩ : ∃ bx, w.heap.size = bx := ⟨_, rfl⟩
  obtain ⟨W1, hW1⟩ : ∃ W1, (w.alloc (.cells #[.int .i64 room, .slice a n c] 31)) = W1 := ⟨_, rfl⟩
  have hW1b : W1.heap.size = bx + 1 := by rw [← hW1, World.size_alloc, hbx]
  rw [hbx] at C1
  have hc1 : (w.alloc (.cells #[.int .i64 room, .slice a n c] 31)) = (w.alloc (.cells [.int .i64 room, .slice a n c].toArray 31)) := rfl
  rw [← hc1, hW1] at C1
  rw [hW1] at K1
  clear hc hn hc1
  have BW : bx < W1.heap.size := by omega
  clear hW1b
  go_enter Tryd.func20, Tryd.ntmps20
  go_upto_region 3 with fail
  clear hW1
  go_loopw [3, 4] (fun vo v wr => ∃ j : Nat, v = .int .i64 j ∧ j ≤ n ∧ Keeps Nowhere W1 wr ∧ wr.ownsRow W1.heap.size 36 1 vo j ((ks (L.take j)).map e32)) (fun _ v _ => n - natOf v)
  case atStart => exact ⟨0, rfl, Nat.zero_le _, Keeps.refl _ _, World.ownsRow_nil _ _ _ _⟩
  case round =>
    obtain ⟨j, rfl, hj, hk, hr⟩ := hrel
    have c1 : wr.cell? ⟨bx, 1, none⟩ = some (.slice a n c) := by rw [(C1.it.later hk (fun x => x)).cell]; rfl
    rcases Nat.eq_or_lt_of_le hj with rfl | hlt
    · obtain ⟨p0, p1, p2, rfl⟩ := owns_shapeK hr
      have HK := Aside.mk hk
      have HR := Aside.mk hr
      clear hk hr
      go_wp2_with fail
      go_ret
      refine ⟨_, rfl, ⟨?_⟩, ⟨K1.it.trans HK.it⟩⟩
      have e : L.take j = L := List.take_of_length_le (by rw [HN.it]; exact Nat.le_refl _)
      have r := HR.it
      rw [e] at r
      exact owns_rdU r
    · obtain ⟨x, hx⟩ : ∃ x, L[j]? = some x := ⟨_, List.getElem?_eq_getElem (by rw [HN.it]; exact hlt)⟩
      obtain ⟨g, rfl, _, y0, y1⟩ := HC.it j x hx
      have z0 : wr.cell? ⟨g, j * 2, none⟩ = some (.int .u32 (x.1 : Nat)) := by rw [World.cell?_of_block (w := w) ((K1.it.trans hk).block g (World.block_lt_of_cell? w _ y0) (fun x => x))]; exact y0
      have HK := Aside.mk hk
      have HTK := Aside.mk (take_snoc hx)
      have b1 : j + 1 ≤ maxLen := by omega
      have b2 : (j + 1) * 4 ≤ 140737488355328 := by omega
      have b3 : ∀ o, W1.heap.size ≤ (wr.alloc o).heap.size := fun o => by have := HK.it.size; rw [World.size_alloc]; omega
      clear hk y0 y1 hx
      go_wp2_with (first
        | (at_builtin; refine wpList_append_own _ rfl _ _ 51 rfl W1.heap.size 36 i0 (.int .u32 0) 1 4 Tryd.underlying51 hi hz0 hz1 hz2 rfl (by decide) _ _ _ rfl (hr.alloc _) ⟨wr.heap.size, 0, none⟩ 1 1 [e32 x.1] rfl rfl (cell_one_new _ _ _) (by simp [Value.oneCell']) b1 b2 (b3 _) ?_
           intro v6 w6 hown6 hg6 hnil6)
        | go_in)
      go_roundw
      case rel =>
        refine ⟨j + 1, by go_num, by omega, ?_, ?_⟩
        · exact (HK.it.alloc _).next (grown_keeps hg6) (fun k e hlt => by have := (hr.lt k e).1; omega)
        · rw [HTK.it]
          unfold ks at hown6 ⊢
          simpa using hown6
      case measure => simp [natOf]; omega
end Go.Proofs.YtcdgmbaimbmdmaaDoor
