/-
  the document's table: Drop, Put
-/
import Derived.Test.YtcdgmbaimbmdmaaDoorDcB
namespace Go.Proofs.YtcdgmbaimbmdmaaDoor
open Go.RowKit Tbint

variable {w w' W : World} {own own' : Nat → Nat} {v : Value} {L : Tl Int} {I : Nat → Prop}

theorem tdel_snoc (L : Tl Int) (k : Nat) (x : Nat × Int) : tdel (L ++ [x]) k = if x.1 = k then tdel L k else tdel L k ++ [x] := by
  unfold tdel
  rw [List.filter_append]
  by_cases h : x.1 = k
  · simp [h]
  · simp [h]
theorem len_tdel_le (L : Tl Int) (k : Nat) : (tdel L k).length ≤ L.length := List.length_filter_le _ _

set_option maxRecDepth 20000 in
set_option maxHeartbeats 2000000 in
theorem ddrop (room : Int) (k : Nat) (h : RdD own w v L) (hl : L.length ≤ 4294967296) :
    Calls Tryd.prog 17 #[.agg #[.int .i64 room, v], .int .u32 k] w fun e w' => ∃ v', e = .returned (.tuple #[.agg #[.int .i64 room, v'], .int .i64 ((tlook L k).getD 0), .bool (tlook L k).isSome]) ∧ Aside (RdD (give own w.heap.size 9) w' v' (tdel L k)) ∧ Aside (Keeps Nowhere w w') := by
  have H := Aside.mk h
  obtain ⟨a, c, rfl, hlc, hc⟩ := h
  obtain ⟨n, hn⟩ : ∃ n, L.length = n := ⟨_, rfl⟩
  have HN := Aside.mk hn
  obtain ⟨i0, hi, hz0, hz1, hz2⟩ := info_parts rinfo
  rw [hn] at hlc
  have hl' : n ≤ 4294967296 := by omega
  obtain ⟨bx, hbx⟩ : ∃ bx, w.heap.size = bx := ⟨_, rfl⟩
  obtain ⟨W1, hW1⟩ : ∃ W1, ((w.alloc (.cells #[.int .i64 room, .slice a n c] 31)).alloc (.cells #[.int .i64 0, .slice none 0 0] 31)) = W1 := ⟨_, rfl⟩
  have K1 : Aside (Keeps Nowhere w W1) := ⟨by rw [← hW1]; exact ((Keeps.refl _ _).alloc _).alloc _⟩
  have C1 : Aside (Cells W1 bx 31 [.int .i64 room, .slice a n c]) := ⟨by rw [← hW1, ← hbx]; exact (Cells.new w _ _).later (S := Nowhere) ((Keeps.refl _ _).alloc _) (fun x => x)⟩
  have C2 : Aside (Cells W1 (bx + 1) 31 [.int .i64 0, .slice none 0 0]) := ⟨by
    have h := Cells.new (w.alloc (.cells #[.int .i64 room, .slice a n c] 31)) 31 [.int .i64 0, .slice none 0 0]
    rw [World.size_alloc, hbx] at h
    rw [← hW1]; exact h⟩
  have GT := Aside.mk (dget room k (H.it.quiet K1.it) hl)
  rw [HN.it] at GT
  have HC := Aside.mk hc
  obtain ⟨o, ho⟩ : ∃ o, tlook L k = o := ⟨_, rfl⟩
  have HBX := Aside.mk hbx
  rw [hn]
  rw [ho] at GT ⊢
  have d0 : W1.cell? ⟨bx, 0, none⟩ = some (.int .i64 room) := by rw [C1.it.cell]; rfl
  have d1 : W1.cell? ⟨bx, 1, none⟩ = some (.slice a n c) := by rw [C1.it.cell]; rfl
  clear hc hn ho hl
  go_enter Tryd.func17, Tryd.ntmps17
  go_upto_region 1 with fail
  clear hW1 hbx
  go_upto_region 4 with (go_at_call 16; refine GT.it.mono ?_; rintro e w2 ⟨rfl, K2⟩)
  have K12 := Aside.mk (K1.it.trans K2.it)
  have E1 := Aside.mk (C1.it.later K2.it (fun x => x))
  have E2 := Aside.mk (C2.it.later K2.it (fun x => x))
  have hwb : w.heap.size ≤ w2.heap.size := K12.it.size
  have hb2 : bx + 1 < w2.heap.size := E2.it.lt
  clear GT d0 d1 C1 C2
  go_loopw [9, 10] (fun vo v wr => ∃ j : Nat, v = .int .i64 j ∧ j ≤ n ∧ Keeps Nowhere w2 wr ∧ wr.ownsRow w2.heap.size 43 2 vo (tdel (L.take j) k).length (flat15 (tdel (L.take j) k))) (fun _ v _ => n - natOf v)
  case atStart => exact ⟨0, rfl, Nat.zero_le _, Keeps.refl _ _, World.ownsRow_nil _ _ _ _⟩
  case round =>
    obtain ⟨j, rfl, hj, hk, hr⟩ := hrel
    have e1 := E1.it.later hk (fun x => x)
    have e2 := E2.it.later hk (fun x => x)
    have d0 : wr.cell? ⟨bx, 0, none⟩ = some (.int .i64 room) := by rw [e1.cell]; rfl
    have d1 : wr.cell? ⟨bx, 1, none⟩ = some (.slice a n c) := by rw [e1.cell]; rfl
    rcases Nat.eq_or_lt_of_le hj with rfl | hlt
    · obtain ⟨p0, p1, p2, rfl⟩ := owns_shapeK hr
      have f1 := e1.frozen 1
      have g0 : wr.cell? ⟨bx + 1, 0, none⟩ = some (.int .i64 0) := by rw [e2.cell]; rfl
      have g1 : wr.cell? ⟨bx + 1, 1, none⟩ = some (.slice none 0 0) := by rw [e2.cell]; rfl
      have h0 := e2.frozen 0
      have h1 := e2.frozen 1
      have HK := Aside.mk hk
      have HR := Aside.mk hr
      have HE := Aside.mk (And.intro e1 e2)
      clear hk hr e1 e2
      go_wp2_with fail
      have x2 := ((((HE.it.2.setOther ⟨bx, 1, none⟩ (.slice p0 p1 p2) (by simp)).setCell 0 (.int .i64 room)).setCell 1 (.slice p0 p1 p2)))
      have y0 := x2.cell 0
      have y1 := x2.cell 1
      refine bodyPost_ret (v := .tuple #[.agg #[.int .i64 room, .slice p0 p1 p2], .int .i64 (o.getD 0), .bool o.isSome]) (by simp [results, Tryd.f17, go_sem, y0, y1]) rfl ?_
      refine ⟨_, rfl, ⟨?_⟩, ⟨?_⟩⟩
      · have e : L.take j = L := List.take_of_length_le (by rw [HN.it]; exact Nat.le_refl _)
        have r := HR.it
        rw [e] at r
        refine owns_rdD (w := w) (base := w2.heap.size) ?_ rfl hwb
        refine owns_later r (S := fun k => k = bx ∨ k = bx + 1) ((((Keeps.refl _ _).setCell _ _ (fun _ => .inl rfl)).setCell _ _ (fun _ => .inr rfl)).setCell _ _ (fun _ => .inr rfl)) (fun b hb e => ?_)
        have := owns_base r b hb
        have := HBX.it
        omega
      · refine (K12.it.trans HK.it).next (S' := fun k => k = bx ∨ k = bx + 1) ((((Keeps.refl _ _).setCell _ _ (fun _ => .inl rfl)).setCell _ _ (fun _ => .inr rfl)).setCell _ _ (fun _ => .inr rfl)) (fun k e hlt => ?_)
        have := HBX.it
        omega
    · obtain ⟨x, hx⟩ : ∃ x, L[j]? = some x := ⟨_, List.getElem?_eq_getElem (by rw [HN.it]; exact hlt)⟩
      obtain ⟨g, rfl, _, y0, y1⟩ := HC.it j x hx
      have z0 : wr.cell? ⟨g, j * 2, none⟩ = some (.int .u32 (x.1 : Nat)) := by rw [World.cell?_of_block (w := w) ((K12.it.trans hk).block g (World.block_lt_of_cell? w _ y0) (fun x => x))]; exact y0
      have z1 : wr.cell? ⟨g, j * 2 + 1, none⟩ = some (.int .i64 x.2) := by rw [World.cell?_of_block (w := w) ((K12.it.trans hk).block g (World.block_lt_of_cell? w _ y0) (fun x => x))]; exact y1
      have HK := Aside.mk hk
      have HTK := Aside.mk (show tdel (L.take (j + 1)) k = if x.1 = k then tdel (L.take j) k else tdel (L.take j) k ++ [x] by rw [take_snoc hx]; exact tdel_snoc _ _ _)
      have hdl : (tdel (L.take j) k).length ≤ j := Nat.le_trans (len_tdel_le _ _) (by rw [List.length_take]; omega)
      clear hk y0 y1 hx e1 e2
      by_cases hxk : x.1 = k
      · rw [if_pos hxk] at HTK
        have hxd : ((x.1 : Int) != k) = false := by simp [hxk]
        have HR := Aside.mk hr
        clear hxk hr
        go_wp2_with fail
        go_roundw
        case rel => exact ⟨j + 1, by go_num, by omega, HK.it, by rw [HTK.it]; exact HR.it⟩
        case measure => simp [natOf]; omega
      · rw [if_neg hxk] at HTK
        have hxd : ((x.1 : Int) != k) = true := by simp; omega
        have b1 : (tdel (L.take j) k).length + 1 ≤ maxLen := Nat.le_trans (show (tdel (L.take j) k).length + 1 ≤ 4294967297 by omega) (by decide)
        have b2 : ((tdel (L.take j) k).length + 1) * 16 ≤ 140737488355328 := by omega
        have b3 : ∀ o, w2.heap.size ≤ (wr.alloc o).heap.size := fun o => by have := HK.it.size; rw [World.size_alloc]; omega
        clear hxk
        go_wp2_with (first
          | (at_builtin; refine wpList_append_own _ rfl _ _ 29 rfl w2.heap.size 43 i0 (.agg #[.int .u32 0, .int .i64 0]) 2 16 Tryd.underlying29 hi hz0 hz1 hz2 rfl (by decide) _ _ _ rfl (hr.alloc _) ⟨wr.heap.size, 0, none⟩ 1 1 (flr x) rfl rfl (cells_two _ _ _ _) (by simp [flr, Value.oneCell']) b1 b2 (b3 _) ?_
             intro v6 w6 hown6 hg6 hnil6)
          | go_in)
        go_roundw
        case rel =>
          refine ⟨j + 1, by go_num, by omega, ?_, ?_⟩
          · exact (HK.it.alloc _).next (grown_keeps hg6) (fun k e hlt => by have := (hr.lt k e).1; omega)
          · rw [HTK.it, flat15_snoc, List.length_append]
            exact hown6
        case measure => simp [natOf]; omega
end Go.Proofs.YtcdgmbaimbmdmaaDoor
