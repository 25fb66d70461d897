/-
  the document's table: Put
-/
import Derived.Test.YtcdgmbaimbmdmaaDoorDcC
namespace Go.Proofs.YtcdgmbaimbmdmaaDoor
open Go.RowKit Tbint

variable {w w' W : World} {own own' : Nat → Nat} {v : Value} {L : Tl Int} {I : Nat → Prop}

set_option maxRecDepth 20000 in
set_option maxHeartbeats 4000000 in
theorem dput (room : Int) (k : Nat) (x : Int) (h : RdD own w v L) (hl : L.length ≤ 4294967296) :
    Calls Tryd.prog 15 #[.agg #[.int .i64 room, v], .int .u32 k, .int .i64 x] w fun e w' => ∃ v', e = .returned (.tuple #[.agg #[.int .i64 room, v'], .int .i64 (putC room L k)]) ∧ Aside (RdD (give own w.heap.size 9) w' v' (putL room L k x)) ∧ Aside (Keeps Nowhere w w') := by
  have H := Aside.mk h
  obtain ⟨a, c, rfl, hlc, hc⟩ := h
  obtain ⟨n, hn⟩ : ∃ n, L.length = n := ⟨_, rfl⟩
  have HN := Aside.mk hn
  obtain ⟨i0, hi, hz0, hz1, hz2⟩ := info_parts rinfo
  rw [hn] at hlc
  have hl' : n ≤ 4294967296 := by omega
  obtain ⟨bx, hbx⟩ : ∃ bx, w.heap.size = bx := ⟨_, rfl⟩
  obtain ⟨W1, hW1⟩ : ∃ W1, ((w.alloc (.cells #[.int .i64 room, .slice a n c] 31)).alloc (.cells #[.int .i64 0, .slice none 0 0] 31)) = W1 := ⟨_, rfl⟩
  have K1 : Aside (Keeps Nowhere w W1) := ⟨by rw [← hW1]; exact ((Keeps.refl _ _).alloc _).alloc _⟩
  have C1 : Aside (Cells W1 bx 31 [.int .i64 room, .slice a n c]) := ⟨by rw [← hW1, ← hbx]; exact (Cells.new w _ _).later (S := Nowhere) ((Keeps.refl _ _).alloc _) (fun x => x)⟩
  have C2 : Aside (Cells W1 (bx + 1) 31 [.int .i64 0, .slice none 0 0]) := ⟨by
    have h := Cells.new (w.alloc (.cells #[.int .i64 room, .slice a n c] 31)) 31 [.int .i64 0, .slice none 0 0]
    rw [World.size_alloc, hbx] at h
    rw [← hW1]; exact h⟩
  have GT := Aside.mk (dget room k (H.it.quiet K1.it) hl)
  rw [HN.it] at GT
  have HC := Aside.mk hc
  obtain ⟨o, ho⟩ : ∃ o, tlook L k = o := ⟨_, rfl⟩
  have HBX := Aside.mk hbx
  have HO := Aside.mk ho
  rw [hn]
  rw [ho] at GT
  have d0 : W1.cell? ⟨bx, 0, none⟩ = some (.int .i64 room) := by rw [C1.it.cell]; rfl
  have d1 : W1.cell? ⟨bx, 1, none⟩ = some (.slice a n c) := by rw [C1.it.cell]; rfl
  clear hc hn ho hl
  go_enter Tryd.func15, Tryd.ntmps15
  go_upto_region 1 with fail
  clear hW1 hbx
  go_upto_region 2 with (go_at_call 16; refine GT.it.mono ?_; rintro e w2 ⟨rfl, K2⟩)
  have K12 := Aside.mk (K1.it.trans K2.it)
  have E1 := Aside.mk (C1.it.later K2.it (fun x => x))
  have E2 := Aside.mk (C2.it.later K2.it (fun x => x))
  have hwb : w.heap.size ≤ w2.heap.size := K12.it.size
  have hb2 : bx + 1 < w2.heap.size := E2.it.lt
  clear GT d0 d1 C1 C2
  have d0 : w2.cell? ⟨bx, 0, none⟩ = some (.int .i64 room) := by rw [E1.it.cell]; rfl
  have d1 : w2.cell? ⟨bx, 1, none⟩ = some (.slice a n c) := by rw [E1.it.cell]; rfl
  have g0 : w2.cell? ⟨bx + 1, 0, none⟩ = some (.int .i64 0) := by rw [E2.it.cell]; rfl
  have g1 : w2.cell? ⟨bx + 1, 1, none⟩ = some (.slice none 0 0) := by rw [E2.it.cell]; rfl
  have h0 := E2.it.frozen 0
  have h1 := E2.it.frozen 1
  -- a table that stays as it is
  have SAME : Aside (∀ cd, putC room L k = cd → putL room L k x = L → ∀ e, e = Ending.returned (.tuple #[.agg #[.int .i64 room, .slice a n c], .int .i64 cd]) → ∃ v', e = .returned (.tuple #[.agg #[.int .i64 room, v'], .int .i64 (putC room L k)]) ∧ Aside (RdD (give own w.heap.size 9) ((w2.setCell ⟨bx + 1, 0, none⟩ (.int .i64 room)).setCell ⟨bx + 1, 1, none⟩ (.slice a n c)) v' (putL room L k x)) ∧ Aside (Keeps Nowhere w ((w2.setCell ⟨bx + 1, 0, none⟩ (.int .i64 room)).setCell ⟨bx + 1, 1, none⟩ (.slice a n c)))) := ⟨fun cd h1 h2 e he => by
    have KF : Keeps Nowhere w ((w2.setCell ⟨bx + 1, 0, none⟩ (.int .i64 room)).setCell ⟨bx + 1, 1, none⟩ (.slice a n c)) := K12.it.next (S' := fun k => k = bx + 1) (((Keeps.refl (fun k => k = bx + 1) w2).setCell ⟨bx + 1, 0, none⟩ _ (fun _ => rfl)).setCell ⟨bx + 1, 1, none⟩ _ (fun _ => rfl)) (fun k e hlt => by have := HBX.it; omega)
    refine ⟨.slice a n c, by rw [h1]; exact he, ⟨?_⟩, ⟨KF⟩⟩
    rw [h2]
    have := H.it.step KF 9
    rw [HN.it] at this
    exact this⟩
  cases ho : o with
  | some v0 =>
    subst ho
    have hsm : putC room L k = 8 ∧ putL room L k x = L := by unfold putC putL; rw [HO.it]; simp
    go_wp2_with fail
    have x2 := (E2.it.setCell 0 (.int .i64 room)).setCell 1 (.slice a n c)
    have y0 := x2.cell 0
    have y1 := x2.cell 1
    refine bodyPost_ret (v := .tuple #[.agg #[.int .i64 room, .slice a n c], .int .i64 8]) (by simp [results, Tryd.f15, go_sem, y0, y1]) rfl ?_
    exact SAME.it 8 hsm.1 hsm.2 _ rfl
  | none =>
    subst ho
    by_cases hr : room ≤ (n : Int)
    · have hsm : putC room L k = 6 ∧ putL room L k x = L := by unfold putC putL; rw [HO.it]; simp; rw [HN.it]; exact ⟨hr, fun h => by omega⟩
      go_wp2_with fail
      have x2 := (E2.it.setCell 0 (.int .i64 room)).setCell 1 (.slice a n c)
      have y0 := x2.cell 0
      have y1 := x2.cell 1
      refine bodyPost_ret (v := .tuple #[.agg #[.int .i64 room, .slice a n c], .int .i64 6]) (by simp [results, Tryd.f15, go_sem, y0, y1]) rfl ?_
      exact SAME.it 6 hsm.1 hsm.2 _ rfl
    · have hsm : putC room L k = 0 ∧ putL room L k x = tput L k x := by
        have hr' : ¬ room ≤ (L.length : Int) := by rw [HN.it]; exact hr
        unfold putC putL; rw [HO.it]; simp [hr']
      have HSM := Aside.mk hsm
      have hr' : ¬ room ≤ (n : Int) := hr
      clear SAME d0 d1 g0 g1 h0 h1 hsm
      have d0 : w2.cell? ⟨bx, 0, none⟩ = some (.int .i64 room) := by rw [E1.it.cell]; rfl
      have d1 : w2.cell? ⟨bx, 1, none⟩ = some (.slice a n c) := by rw [E1.it.cell]; rfl
      go_upto_region 8 with fail
      clear d0 d1
      go_loopw [10, 11] (fun vo v wr => ∃ j : Nat, v = .int .i64 j ∧ j ≤ n ∧ Keeps Nowhere w2 wr ∧ wr.ownsRow w2.heap.size 43 2 vo j (flat15 (L.take j)) ∧ L.take j ++ tput (L.drop j) k x = tput L k x) (fun _ v _ => n - natOf v)
      case atStart => exact ⟨0, rfl, Nat.zero_le _, Keeps.refl _ _, World.ownsRow_nil _ _ _ _, rfl⟩
      case round =>
        obtain ⟨j, rfl, hj, hk, hw, ht⟩ := hrel
        have d1 : wr.cell? ⟨bx, 1, none⟩ = some (.slice a n c) := by rw [(E1.it.later hk (fun x => x)).cell]; rfl
        go_upto_region 8 with fail
        go_cut [41] from 27 to 51 (fun v wx => ∃ cb : Bool, v = .bool cb ∧ wx = wr ∧ Aside (cb = true → ∃ y, L[j]? = some y ∧ y.1 < k) ∧ Aside (cb = false → tput (L.drop j) k x = (k, x) :: L.drop j))
        case first =>
          rcases Nat.eq_or_lt_of_le hj with rfl | hlt
          · have hdn : tput (L.drop j) k x = (k, x) :: L.drop j := by rw [List.drop_eq_nil_of_le (by rw [HN.it]; exact Nat.le_refl _)]; rfl
            have HD := Aside.mk hdn
            clear hdn hw ht
            go_wp2_with fail
            go_meet
            case rel => exact ⟨false, rfl, rfl, ⟨fun e => by cases e⟩, ⟨fun _ => HD.it⟩⟩
          · obtain ⟨y, hy⟩ : ∃ y, L[j]? = some y := ⟨_, List.getElem?_eq_getElem (by rw [HN.it]; exact hlt)⟩
            obtain ⟨g, rfl, _, y0, y1⟩ := HC.it j y hy
            have z0 : wr.cell? ⟨g, j * 2, none⟩ = some (.int .u32 (y.1 : Nat)) := by rw [World.cell?_of_block (w := w) ((K12.it.trans hk).block g (World.block_lt_of_cell? w _ y0) (fun x => x))]; exact y0
            have hlz : decide (j < n) = true := decide_eq_true hlt
            have HY := Aside.mk hy
            clear hw ht y0 y1 hy
            by_cases hyk : y.1 < k
            · have hyd : decide (y.1 < k) = true := decide_eq_true hyk
              go_wp2_with fail
              go_meet
              case rel => exact ⟨true, rfl, rfl, ⟨fun _ => ⟨y, HY.it, hyk⟩⟩, ⟨fun e => by cases e⟩⟩
            · have hyd : decide (y.1 < k) = false := decide_eq_false hyk
              go_wp2_with fail
              go_meet
              case rel => exact ⟨false, rfl, rfl, ⟨fun e => by cases e⟩, ⟨fun _ => by rw [drop_at_cons HY.it]; unfold tput; rw [if_neg hyk]⟩⟩
        case rest =>
        obtain ⟨cb, rfl, rfl, HT, HF⟩ := hcut
        generalize wc = wr at hk hw d1 ⊢
        cases cb
        · have ht2 := ht
          rw [HF.it rfl] at ht2
          have HT2 := Aside.mk ht2
          have HK := Aside.mk hk
          have b1 : j + 1 ≤ maxLen := Nat.le_trans (show j + 1 ≤ 4294967297 by omega) (by decide)
          have b2 : (j + 1) * 16 ≤ 140737488355328 := by omega
          have b3 : ∀ o, w2.heap.size ≤ (wr.alloc o).heap.size := fun o => by have := HK.it.size; rw [World.size_alloc]; omega
          clear ht ht2 HT HF hk
          go_upto_region 12 with (first
            | (at_builtin; refine wpList_append_own _ rfl _ _ 29 rfl w2.heap.size 43 i0 (.agg #[.int .u32 0, .int .i64 0]) 2 16 Tryd.underlying29 hi hz0 hz1 hz2 rfl (by decide) _ _ _ rfl (hw.alloc _) ⟨wr.heap.size, 0, none⟩ 1 1 (flr (k, x)) rfl rfl (cells_two _ _ _ _) (by simp [flr, Value.oneCell']) b1 b2 (b3 _) ?_; intro v6 w6 hown6 hg6 hnil6)
            | go_in)
          have KA : Keeps Nowhere w2 w6 := (HK.it.alloc _).next (grown_keeps hg6) (fun k e hlt => by have := (hw.lt k e).1; omega)
          have RA : w6.ownsRow w2.heap.size 43 2 v6 (j + 1) (flat15 (L.take j ++ [(k, x)])) := by rw [flat15_snoc]; exact hown6
          have HRA := Aside.mk (And.intro KA RA)
          clear hown6 hg6 hnil6 KA RA hw d1 b1 b2 b3
          go_loopw [10, 11] (fun vo v wr2 => ∃ (m : Nat) (O : Tl Int), v = .int .i64 m ∧ m ≤ n ∧ Keeps Nowhere w2 wr2 ∧ wr2.ownsRow w2.heap.size 43 2 vo (m + 1) (flat15 O) ∧ O ++ L.drop m = tput L k x) (fun _ v _ => n - natOf v)
          case atStart => exact ⟨j, L.take j ++ [(k, x)], rfl, hj, HRA.it.1, HRA.it.2, by rw [← HT2.it]; simp⟩
          case round =>
            clear HRA HT2 HK
            obtain ⟨m, O, rfl, hm, hk, hw, ht⟩ := hrel
            have e1 := E1.it.later hk (fun x => x)
            have e2 := E2.it.later hk (fun x => x)
            have d0 : wr.cell? ⟨bx, 0, none⟩ = some (.int .i64 room) := by rw [e1.cell]; rfl
            have d1 : wr.cell? ⟨bx, 1, none⟩ = some (.slice a n c) := by rw [e1.cell]; rfl
            rcases Nat.eq_or_lt_of_le hm with rfl | hlt
            · obtain ⟨p0, p1, p2, rfl⟩ := owns_shapeK hw
              have f1 := e1.frozen 1
              have g0 : wr.cell? ⟨bx + 1, 0, none⟩ = some (.int .i64 0) := by rw [e2.cell]; rfl
              have g1 : wr.cell? ⟨bx + 1, 1, none⟩ = some (.slice none 0 0) := by rw [e2.cell]; rfl
              have h0 := e2.frozen 0
              have h1 := e2.frozen 1
              have HK := Aside.mk hk
              have HR := Aside.mk hw
              have HE := Aside.mk (And.intro e1 e2)
              have HO2 := Aside.mk (show O = tput L k x by rw [← ht, List.drop_eq_nil_of_le (by rw [HN.it]; exact Nat.le_refl _), List.append_nil])
              clear hk hw e1 e2 ht
              go_wp2_with fail
              have x2 := ((((HE.it.2.setOther ⟨bx, 1, none⟩ (.slice p0 p1 p2) (by simp)).setCell 0 (.int .i64 room)).setCell 1 (.slice p0 p1 p2)))
              have y0 := x2.cell 0
              have y1 := x2.cell 1
              refine bodyPost_ret (v := .tuple #[.agg #[.int .i64 room, .slice p0 p1 p2], .int .i64 0]) (by simp [results, Tryd.f15, go_sem, y0, y1]) rfl ?_
              refine ⟨_, by rw [HSM.it.1], ⟨?_⟩, ⟨?_⟩⟩
              · rw [HSM.it.2]
                have r := HR.it
                rw [HO2.it] at r
                refine owns_rdD (w := w) (base := w2.heap.size) ?_ (by rw [len_tput, HN.it]) hwb
                refine owns_later r (S := fun k => k = bx ∨ k = bx + 1) ((((Keeps.refl _ _).setCell _ _ (fun _ => .inl rfl)).setCell _ _ (fun _ => .inr rfl)).setCell _ _ (fun _ => .inr rfl)) (fun b hb e => ?_)
                have := owns_base r b hb
                omega
              · refine (K12.it.trans HK.it).next (S' := fun k => k = bx ∨ k = bx + 1) ((((Keeps.refl _ _).setCell _ _ (fun _ => .inl rfl)).setCell _ _ (fun _ => .inr rfl)).setCell _ _ (fun _ => .inr rfl)) (fun k e hlt => ?_)
                have := HBX.it
                omega
            · obtain ⟨y, hy⟩ : ∃ y, L[m]? = some y := ⟨_, List.getElem?_eq_getElem (by rw [HN.it]; exact hlt)⟩
              obtain ⟨g, rfl, _, y0, y1⟩ := HC.it m y hy
              have z0 : wr.cell? ⟨g, m * 2, none⟩ = some (.int .u32 (y.1 : Nat)) := by rw [World.cell?_of_block (w := w) ((K12.it.trans hk).block g (World.block_lt_of_cell? w _ y0) (fun x => x))]; exact y0
              have z1 : wr.cell? ⟨g, m * 2 + 1, none⟩ = some (.int .i64 y.2) := by rw [World.cell?_of_block (w := w) ((K12.it.trans hk).block g (World.block_lt_of_cell? w _ y0) (fun x => x))]; exact y1
              have HK := Aside.mk hk
              have HTK := Aside.mk (show (O ++ [y]) ++ L.drop (m + 1) = tput L k x by rw [← ht, drop_at_cons hy]; simp)
              have b1 : m + 1 + 1 ≤ maxLen := Nat.le_trans (show m + 1 + 1 ≤ 4294967298 by omega) (by decide)
              have b2 : (m + 1 + 1) * 16 ≤ 140737488355328 := by omega
              have b3 : ∀ o, w2.heap.size ≤ (wr.alloc o).heap.size := fun o => by have := HK.it.size; rw [World.size_alloc]; omega
              clear hk y0 y1 hy e1 e2 ht
              go_wp2_with (first
                | (at_builtin; refine wpList_append_own _ rfl _ _ 29 rfl w2.heap.size 43 i0 (.agg #[.int .u32 0, .int .i64 0]) 2 16 Tryd.underlying29 hi hz0 hz1 hz2 rfl (by decide) _ _ _ rfl (hw.alloc _) ⟨wr.heap.size, 0, none⟩ 1 1 (flr y) rfl rfl (cells_two _ _ _ _) (by simp [flr, Value.oneCell']) b1 b2 (b3 _) ?_; intro v6 w6 hown6 hg6 hnil6)
                | go_in)
              go_roundw
              case rel =>
                refine ⟨m + 1, O ++ [y], by go_num, by omega, ?_, ?_, HTK.it⟩
                · exact (HK.it.alloc _).next (grown_keeps hg6) (fun k e hlt => by have := (hw.lt k e).1; omega)
                · rw [flat15_snoc]
                  exact hown6
              case measure => simp [natOf]; omega
        · obtain ⟨y, hy, hyk⟩ := HT.it rfl
          obtain ⟨g, rfl, _, y0, y1⟩ := HC.it j y hy
          have hlt : j < n := by rw [← HN.it]; exact (List.getElem?_eq_some_iff.1 hy).1
          have z0 : wr.cell? ⟨g, j * 2, none⟩ = some (.int .u32 (y.1 : Nat)) := by rw [World.cell?_of_block (w := w) ((K12.it.trans hk).block g (World.block_lt_of_cell? w _ y0) (fun x => x))]; exact y0
          have z1 : wr.cell? ⟨g, j * 2 + 1, none⟩ = some (.int .i64 y.2) := by rw [World.cell?_of_block (w := w) ((K12.it.trans hk).block g (World.block_lt_of_cell? w _ y0) (fun x => x))]; exact y1
          have HK := Aside.mk hk
          have HTK := Aside.mk (show L.take (j + 1) ++ tput (L.drop (j + 1)) k x = tput L k x by
            rw [← ht, take_snoc hy, drop_at_cons hy]
            conv => rhs; rw [tput, if_pos hyk]
            simp)
          have HTS := Aside.mk (take_snoc hy)
          have b1 : j + 1 ≤ maxLen := Nat.le_trans (show j + 1 ≤ 4294967297 by omega) (by decide)
          have b2 : (j + 1) * 16 ≤ 140737488355328 := by omega
          have b3 : ∀ o, w2.heap.size ≤ (wr.alloc o).heap.size := fun o => by have := HK.it.size; rw [World.size_alloc]; omega
          clear hk y0 y1 hy hyk ht HT HF
          go_wp2_with (first
            | (at_builtin; refine wpList_append_own _ rfl _ _ 29 rfl w2.heap.size 43 i0 (.agg #[.int .u32 0, .int .i64 0]) 2 16 Tryd.underlying29 hi hz0 hz1 hz2 rfl (by decide) _ _ _ rfl (hw.alloc _) ⟨wr.heap.size, 0, none⟩ 1 1 (flr y) rfl rfl (cells_two _ _ _ _) (by simp [flr, Value.oneCell']) b1 b2 (b3 _) ?_; intro v6 w6 hown6 hg6 hnil6)
            | go_in)
          go_roundw
          case rel =>
            refine ⟨j + 1, by go_num, by omega, ?_, ?_, HTK.it⟩
            · exact (HK.it.alloc _).next (grown_keeps hg6) (fun k e hlt => by have := (hw.lt k e).1; omega)
            · rw [HTS.it, flat15_snoc]
              exact hown6
          case measure => simp [natOf]; omega
end Go.Proofs.YtcdgmbaimbmdmaaDoor
