/-
  the document's handles: On, Bind, Drop
-/
import Derived.Test.YtjloedcikcamkaaDoorHnR
namespace Go.Proofs.YtjloedcikcamkaaDoor
open Go.RowKit

variable {w w' W : World} {own own' : Nat → Nat} {v : Value} {L : Hl} {I : Nat → Prop} {x : Pl} {z G : Int} {g : Nat}

theorem hon_snoc (L : Hl) (c l : Int) (y : Int × Pl) : honL (L ++ [y]) c l = if y.2.c = c ∧ y.2.l = l then honL L c l ++ [y.1] else honL L c l := by
  unfold honL hk
  rw [List.filter_append, List.map_append]
  by_cases h1 : y.2.c = c
  · by_cases h2 : y.2.l = l
    · simp [h1, h2]
    · simp [h1, h2]
  · simp [h1]
theorem owns_base_le {base base' n k : Nat} {e : TypeId} {v : Value} {xs : List Value} (h : w.ownsRow base e k v n xs) (hb : base' ≤ base) : w.ownsRow base' e k v n xs := by
  refine ⟨h.1, ?_⟩
  rcases h.2 with ⟨h, h0⟩ | ⟨q, cap, cur, h, h0, h1⟩
  · exact .inl ⟨h, h0⟩
  · exact .inr ⟨q, cap, cur, h, by omega, h1⟩
set_option maxRecDepth 20000 in
set_option maxHeartbeats 2000000 in
theorem don (h : RdH own w v L) (hl : L.length ≤ 2147483648) (cc ll : Int) :
    Calls Tryd.prog 19 #[.agg #[.int .i64 G, v], .int .i64 cc, .int .i64 ll] w fun e w' => ∃ v', e = .returned v' ∧ Aside (RwI w w' v' (honL L cc ll)) ∧ Aside (Keeps Nowhere w w') := by
  obtain ⟨a, c, rfl, hlc, hc⟩ := h
  obtain ⟨n, hn⟩ : ∃ n, L.length = n := ⟨_, rfl⟩
  have HN := Aside.mk hn
  obtain ⟨i0, hi, hz0, hz1, hz2⟩ := info_parts intinfo
  rw [hn] at hlc hl ⊢
  obtain ⟨bx, hbx⟩ : ∃ bx, w.heap.size = bx := ⟨_, rfl⟩
  obtain ⟨W1, hW1⟩ : ∃ W1, (w.alloc (.cells #[.int .i64 G, .slice a n c] 28)) = W1 := ⟨_, rfl⟩
  have K1 : Aside (Keeps Nowhere w W1) := ⟨by rw [← hW1]; exact (Keeps.refl _ _).alloc _⟩
  have C1 : Aside (Cells W1 bx 28 [.int .i64 G, .slice a n c]) := ⟨by rw [← hW1, ← hbx]; exact (Cells.new w _ _)⟩
  have HC := Aside.mk hc
  clear hc hn
  go_enter Tryd.func19, Tryd.ntmps19
  go_upto_region 3 with fail
  clear hW1 hbx
  go_loopw [7, 8] (fun vo v wr => ∃ j : Nat, v = .int .i64 j ∧ j ≤ n ∧ Keeps Nowhere W1 wr ∧ wr.ownsRow W1.heap.size 3 1 vo (honL (L.take j) cc ll).length ((honL (L.take j) cc ll).map (Value.int .i64))) (fun _ v _ => n - natOf22 v)
  case atStart => exact ⟨0, rfl, Nat.zero_le _, Keeps.refl _ _, World.ownsRow_nil _ _ _ _⟩
  case round =>
    obtain ⟨j, rfl, hj, hk, hr⟩ := hrel
    have d1 : wr.cell? ⟨bx, 1, none⟩ = some (.slice a n c) := by rw [(C1.it.later hk (fun x => x)).cell]; rfl
    rcases Nat.eq_or_lt_of_le hj with rfl | hlt
    · obtain ⟨p0, p1, p2, rfl⟩ := owns_shapeK hr
      have HK := Aside.mk hk
      have HR := Aside.mk hr
      clear hk hr
      go_wp2_with fail
      go_ret
      refine ⟨_, rfl, ⟨?_⟩, ⟨K1.it.trans HK.it⟩⟩
      have e : L.take j = L := List.take_of_length_le (by rw [HN.it]; exact Nat.le_refl _)
      have r := HR.it
      rw [e] at r
      exact owns_base_le r K1.it.size
    · obtain ⟨y, hy⟩ : ∃ y, L[j]? = some y := ⟨_, List.getElem?_eq_getElem (by rw [HN.it]; exact hlt)⟩
      obtain ⟨q, rfl, _, y0, y1, y2, y3⟩ := HC.it j y hy
      have hb := (K1.it.trans hk).block q (World.block_lt_of_cell? w _ y0) (fun x => x)
      have z0 : wr.cell? ⟨q, j * 4, none⟩ = some (.int .i64 y.1) := by rw [World.cell?_of_block (w := w) hb]; exact y0
      have z1 : wr.cell? ⟨q, j * 4 + 1, none⟩ = some (.int .i64 y.2.c) := by rw [World.cell?_of_block (w := w) hb]; exact y1
      have z2 : wr.cell? ⟨q, j * 4 + 1 + 1, none⟩ = some (.int .i64 y.2.l) := by rw [World.cell?_of_block (w := w) hb]; exact y2
      have HK := Aside.mk hk
      have HTK := Aside.mk (show honL (L.take (j + 1)) cc ll = if y.2.c = cc ∧ y.2.l = ll then honL (L.take j) cc ll ++ [y.1] else honL (L.take j) cc ll by rw [htake_snoc hy]; exact hon_snoc _ _ _ _)
      have hdl : (honL (L.take j) cc ll).length ≤ j := Nat.le_trans (hon_len _ _ _) (by rw [List.length_take]; omega)
      clear hk y0 y1 y2 y3 hy hb
      by_cases h1 : y.2.c = cc
      · have q1 : (y.2.c == cc) = true := by simp [h1]
        by_cases h2 : y.2.l = ll
        · have q2 : (y.2.l == ll) = true := by simp [h2]
          rw [if_pos ⟨h1, h2⟩] at HTK
          have b1 : (honL (L.take j) cc ll).length + 1 ≤ maxLen := Nat.le_trans (show (honL (L.take j) cc ll).length + 1 ≤ 2147483649 by omega) (by decide)
          have b2 : ((honL (L.take j) cc ll).length + 1) * 8 ≤ 140737488355328 := by omega
          have b3 : ∀ o, W1.heap.size ≤ (wr.alloc o).heap.size := fun o => by have := HK.it.size; rw [World.size_alloc]; omega
          clear h1 h2
          go_wp2_with (first
            | (at_builtin; refine wpList_append_own _ rfl _ _ 51 rfl W1.heap.size 3 i0 (.int .i64 0) 1 8 Tryd.underlying51 hi hz0 hz1 hz2 rfl (by decide) _ _ _ rfl (hr.alloc _) ⟨wr.heap.size, 0, none⟩ 1 1 [.int .i64 y.1] rfl rfl (cell_one_new _ _ _) (by simp [Value.oneCell']) b1 b2 (b3 _) ?_
               intro v6 w6 hown6 hg6 hnil6)
            | go_in)
          go_roundw
          case rel =>
            refine ⟨j + 1, by go_num, by omega, ?_, ?_⟩
            · exact (HK.it.alloc _).next (grown_keeps hg6) (fun k e hlt => by have := (hr.lt k e).1; omega)
            · rw [HTK.it, List.length_append, List.map_append]
              exact hown6
          case measure => simp [natOf22]; omega
        · have q2 : (y.2.l == ll) = false := by simp [h2]
          rw [if_neg (fun h => h2 h.2)] at HTK
          have HR := Aside.mk hr
          clear h1 h2 hr
          go_wp2_with fail
          go_roundw
          case rel => exact ⟨j + 1, by go_num, by omega, HK.it, by rw [HTK.it]; exact HR.it⟩
          case measure => simp [natOf22]; omega
      · have q1 : (y.2.c == cc) = false := by simp [h1]
        rw [if_neg (fun h => h1 h.1)] at HTK
        have HR := Aside.mk hr
        clear h1 hr
        go_wp2_with fail
        go_roundw
        case rel => exact ⟨j + 1, by go_num, by omega, HK.it, by rw [HTK.it]; exact HR.it⟩
        case measure => simp [natOf22]; omega
set_option maxRecDepth 20000 in
set_option maxHeartbeats 2000000 in
theorem dbind (h : RdH own w v L) (ho : HOk g L) (hg : g < 2147483648) :
    Calls Tryd.prog 22 #[.agg #[.int .i64 g, v], .agg #[.int .i64 x.c, .int .i64 x.l, .int .u32 (x.d : Nat)]] w fun e w' => ∃ qa ql qc, e = .returned (.tuple #[.agg #[.int .i64 (bindG g L x : Nat), .slice qa ql qc], .int .i64 (bindN g L x), .int .i64 (bindC g L x)]) ∧ Aside (RdH (give own w.heap.size 9) w' (.slice qa ql qc) (bindL g L x)) ∧ Aside (Keeps Nowhere w w') := by
  have H := Aside.mk h
  have hl : L.length ≤ 2147483648 := Nat.le_trans ho.len (by omega)
  obtain ⟨a, c, rfl, hlc, hc⟩ := h
  obtain ⟨n, hn⟩ : ∃ n, L.length = n := ⟨_, rfl⟩
  have HN := Aside.mk hn
  obtain ⟨i0, hi, hz0, hz1, hz2⟩ := info_parts pinfo
  have D0 := Aside.mk ho.del0
  rw [hn] at hlc hl
  obtain ⟨xc, xl, xd⟩ := x
  obtain ⟨bx, hbx⟩ : ∃ bx, w.heap.size = bx := ⟨_, rfl⟩
  obtain ⟨W1, hW1⟩ : ∃ W1, (((w.alloc (.cells #[.int .i64 g, .slice a n c] 28)).alloc (.cells #[.int .i64 xc, .int .i64 xl, .int .u32 (xd : Nat)] 33)).alloc (.cells #[.int .i64 0, .slice none 0 0] 28)) = W1 := ⟨_, rfl⟩
  have K1 : Aside (Keeps Nowhere w W1) := ⟨by rw [← hW1]; exact (((Keeps.refl _ _).alloc _).alloc _).alloc _⟩
  have C1 : Aside (Cells W1 bx 28 [.int .i64 g, .slice a n c]) := ⟨by rw [← hW1, ← hbx]; exact (Cells.new w _ _).later (S := Nowhere) (((Keeps.refl _ _).alloc _).alloc _) (fun x => x)⟩
  have C2 : Aside (Cells W1 (bx + 1) 33 [.int .i64 xc, .int .i64 xl, .int .u32 (xd : Nat)]) := ⟨by
    have h := Cells.new (w.alloc (.cells #[.int .i64 g, .slice a n c] 28)) 33 [.int .i64 xc, .int .i64 xl, .int .u32 (xd : Nat)]
    rw [World.size_alloc, hbx] at h
    rw [← hW1]; exact h.later (S := Nowhere) ((Keeps.refl _ _).alloc _) (fun x => x)⟩
  have C3 : Aside (Cells W1 (bx + 1 + 1) 28 [.int .i64 0, .slice none 0 0]) := ⟨by
    have h := Cells.new ((w.alloc (.cells #[.int .i64 g, .slice a n c] 28)).alloc (.cells #[.int .i64 xc, .int .i64 xl, .int .u32 (xd : Nat)] 33)) 28 [.int .i64 0, .slice none 0 0]
    rw [World.size_alloc, World.size_alloc, hbx] at h
    rw [← hW1]; exact h⟩
  have OF := Aside.mk (dof (G := g) (x := ⟨xc, xl, xd⟩) (H.it.quiet K1.it) (by rw [HN.it]; exact hl))
  rw [HN.it] at OF
  have HBX := Aside.mk hbx
  have d0 : W1.cell? ⟨bx, 0, none⟩ = some (.int .i64 g) := by rw [C1.it.cell]; rfl
  have d1 : W1.cell? ⟨bx, 1, none⟩ = some (.slice a n c) := by rw [C1.it.cell]; rfl
  have e0 : W1.cell? ⟨bx + 1, 0, none⟩ = some (.int .i64 xc) := by rw [C2.it.cell]; rfl
  have e1 : W1.cell? ⟨bx + 1, 1, none⟩ = some (.int .i64 xl) := by rw [C2.it.cell]; rfl
  have e2 : W1.cell? ⟨bx + 1, 2, none⟩ = some (.int .u32 (xd : Nat)) := by rw [C2.it.cell]; rfl
  have hr : ¬ 2147483648 ≤ g := by omega
  rw [hn]
  unfold bindC bindN bindG bindL
  simp only [hr, if_false]
  clear hc hn hr
  cases ho' : hof L ⟨xc, xl, xd⟩ with
  | some y =>
    rw [ho'] at OF
    simp only [Option.isSome_some, if_true, Option.getD_some] at OF ⊢
    clear ho'
    go_enter Tryd.func22, Tryd.ntmps22
    go_upto_region 1 with fail
    clear hW1 hbx
    go_upto_region 2 with (go_at_call 25; refine OF.it.mono ?_; rintro e w2 ⟨rfl, K2⟩)
    have K12 := Aside.mk (K1.it.trans K2.it)
    have E1 := Aside.mk (C1.it.later K2.it (fun x => x))
    have E3 := Aside.mk (C3.it.later K2.it (fun x => x))
    clear OF d0 d1 e0 e1 e2
    have d0 : w2.cell? ⟨bx, 0, none⟩ = some (.int .i64 g) := by rw [E1.it.cell]; rfl
    have d1 : w2.cell? ⟨bx, 1, none⟩ = some (.slice a n c) := by rw [E1.it.cell]; rfl
    have g0 : w2.cell? ⟨bx + 1 + 1, 0, none⟩ = some (.int .i64 0) := by rw [E3.it.cell]; rfl
    have g1 : w2.cell? ⟨bx + 1 + 1, 1, none⟩ = some (.slice none 0 0) := by rw [E3.it.cell]; rfl
    have h0 := E3.it.frozen 0
    have h1 := E3.it.frozen 1
    go_wp2_with fail
    have x2 := (E3.it.setCell 0 (.int .i64 g)).setCell 1 (.slice a n c)
    have y0 := x2.cell 0
    have y1 := x2.cell 1
    refine bodyPost_ret (v := .tuple #[.agg #[.int .i64 g, .slice a n c], .int .i64 0, .int .i64 8]) (by simp [results, Tryd.f22, go_sem, y0, y1]) rfl ?_
    have KF : Keeps Nowhere w ((w2.setCell ⟨bx + 1 + 1, 0, none⟩ (.int .i64 g)).setCell ⟨bx + 1 + 1, 1, none⟩ (.slice a n c)) := K12.it.next (S' := fun k => k = bx + 1 + 1) (((Keeps.refl (fun k => k = bx + 1 + 1) w2).setCell ⟨bx + 1 + 1, 0, none⟩ _ (fun _ => rfl)).setCell ⟨bx + 1 + 1, 1, none⟩ _ (fun _ => rfl)) (fun k e hlt => by have := HBX.it; omega)
    refine ⟨a, n, c, rfl, ⟨?_⟩, ⟨KF⟩⟩
    have := H.it.step KF 9
    rw [HN.it] at this
    exact this
  | none =>
    rw [ho'] at OF
    simp only [Option.isSome_none, Bool.false_eq_true, if_false, Option.getD_none] at OF ⊢
    clear ho'
    have hg1 : (g : Int) ≤ 2147483647 := by omega
    have hg0 : (0 : Int) ≤ g := by omega
    go_enter Tryd.func22, Tryd.ntmps22
    go_upto_region 1 with fail
    clear hW1 hbx
    go_upto_region 2 with (go_at_call 25; refine OF.it.mono ?_; rintro e w2 ⟨rfl, K2⟩)
    have K12 := Aside.mk (K1.it.trans K2.it)
    have E1 := Aside.mk (C1.it.later K2.it (fun x => x))
    have E2 := Aside.mk (C2.it.later K2.it (fun x => x))
    have E3 := Aside.mk (C3.it.later K2.it (fun x => x))
    clear OF d0 d1 e0 e1 e2
    have d0 : w2.cell? ⟨bx, 0, none⟩ = some (.int .i64 g) := by rw [E1.it.cell]; rfl
    have f0 := E1.it.frozen 0
    go_upto_region 5 with fail
    have F1 := Aside.mk (E1.it.setCell 0 (.int .i64 ((g : Int) + 1)))
    have F2 := Aside.mk (E2.it.setOther ⟨bx, 0, none⟩ (.int .i64 ((g : Int) + 1)) (by simp))
    have F3 := Aside.mk (E3.it.setOther ⟨bx, 0, none⟩ (.int .i64 ((g : Int) + 1)) (by simp; omega))
    have K3 : Aside (Keeps Nowhere w (w2.setCell ⟨bx, 0, none⟩ (.int .i64 ((g : Int) + 1)))) := ⟨K12.it.next (S' := fun k => k = bx) ((Keeps.refl _ _).setCell _ _ (fun _ => rfl)) (fun k e hlt => by have := HBX.it; omega)⟩
    generalize w2.setCell ⟨bx, 0, none⟩ (.int .i64 ((g : Int) + 1)) = w3 at F1 F2 F3 K3 ⊢
    clear d0 f0 E1 E2 E3
    have WT := Aside.mk (dwithout (H.it.quiet K3.it) (by rw [HN.it]; exact hl) 0)
    rw [HN.it, D0.it, HN.it] at WT
    have d1 : w3.cell? ⟨bx, 1, none⟩ = some (.slice a n c) := by rw [F1.it.cell]; rfl
    go_upto_region 6 with (go_at_call 30; refine WT.it.mono ?_; rintro e w4 ⟨v4, rfl, R4, K4⟩)
    have K34 := Aside.mk (K3.it.trans K4.it)
    have G1 := Aside.mk (F1.it.later K4.it (fun x => x))
    have G2 := Aside.mk (F2.it.later K4.it (fun x => x))
    have G3 := Aside.mk (F3.it.later K4.it (fun x => x))
    have hbw : bx + 1 + 1 < w3.heap.size := F3.it.lt
    clear d1 F1 F2 F3 WT
    have d0 : w4.cell? ⟨bx, 0, none⟩ = some (.int .i64 ((g : Int) + 1)) := by rw [G1.it.cell]; rfl
    have d1 : w4.cell? ⟨bx, 1, none⟩ = some (.slice a n c) := by rw [G1.it.cell]; rfl
    have f1 := G1.it.frozen 1
    have e0 : w4.cell? ⟨bx + 1, 0, none⟩ = some (.int .i64 xc) := by rw [G2.it.cell]; rfl
    have e1 : w4.cell? ⟨bx + 1, 1, none⟩ = some (.int .i64 xl) := by rw [G2.it.cell]; rfl
    have e2 : w4.cell? ⟨bx + 1, 2, none⟩ = some (.int .u32 (xd : Nat)) := by rw [G2.it.cell]; rfl
    have b1 : n + 1 ≤ maxLen := Nat.le_trans (show n + 1 ≤ 2147483649 by omega) (by decide)
    have b2 : (n + 1) * 32 ≤ 140737488355328 := by omega
    have b3 : ∀ o, w3.heap.size ≤ (w4.alloc o).heap.size := fun o => by have := K4.it.size; rw [World.size_alloc]; omega
    go_upto_region 7 with (first
      | (at_builtin; refine wpList_append_own _ rfl _ _ 26 rfl w3.heap.size 69 i0 (.agg #[.int .i64 0, .int .i64 0, .int .i64 0, .int .u32 0]) 4 32 Tryd.underlying26 hi hz0 hz1 hz2 rfl (by decide) _ _ _ rfl (R4.it.alloc _) ⟨w4.heap.size, 0, none⟩ 1 1 (fl4 ((g : Int) + 1, ⟨xc, xl, xd⟩)) rfl rfl (cells_four _ _ _ _ _ _) (by simp [fl4, Value.oneCell']) b1 b2 (b3 _) ?_
         intro v6 w6 hown6 hg6 hnil6
         obtain ⟨qa, ql, qc, hv6⟩ := owns_shapeK hown6
         subst hv6
         have K46 : Aside (Keeps (fun k => w3.heap.size ≤ k) w4 w6) := ⟨((Keeps.refl _ _).alloc _).trans ((grown_keeps hg6).mono (fun k e _ => (R4.it.lt k e).1))⟩
         have J1 := Aside.mk (G1.it.later K46.it (fun h => by omega))
         have J3 := Aside.mk (G3.it.later K46.it (fun h => by omega))
         have HW6 := Aside.mk hown6
         have j1 : w6.cell? ⟨bx, 1, none⟩ = some (.slice a n c) := by rw [J1.it.cell]; rfl
         have fj1 := J1.it.frozen 1
         clear hown6 hg6 hnil6)
      | go_in)
    clear d0 d1 f1 e0 e1 e2 b1 b2 b3
    have L1 := Aside.mk (J1.it.setCell 1 (.slice qa ql qc))
    have L3 := Aside.mk (J3.it.setOther ⟨bx, 1, none⟩ (.slice qa ql qc) (by simp; omega))
    have KL : Aside (Keeps (fun k => k = bx) w6 (w6.setCell ⟨bx, 1, none⟩ (.slice qa ql qc))) := ⟨(Keeps.refl _ _).setCell _ _ (fun _ => rfl)⟩
    generalize w6.setCell ⟨bx, 1, none⟩ (.slice qa ql qc) = w7 at L1 L3 KL ⊢
    clear j1 fj1 J1 J3
    have d0 : w7.cell? ⟨bx, 0, none⟩ = some (.int .i64 ((g : Int) + 1)) := by rw [L1.it.cell]; rfl
    have d1 : w7.cell? ⟨bx, 1, none⟩ = some (.slice qa ql qc) := by rw [L1.it.cell]; rfl
    have g0 : w7.cell? ⟨bx + 1 + 1, 0, none⟩ = some (.int .i64 0) := by rw [L3.it.cell]; rfl
    have g1 : w7.cell? ⟨bx + 1 + 1, 1, none⟩ = some (.slice none 0 0) := by rw [L3.it.cell]; rfl
    have h0 := L3.it.frozen 0
    have h1 := L3.it.frozen 1
    go_region
    go_wp2_with fail
    have x2 := ((L3.it.setCell 0 (.int .i64 ((g : Int) + 1))).setCell 1 (.slice qa ql qc)).later (S := Nowhere) ((Keeps.refl _ _).drew) (fun x => x)
    have y0 := x2.cell 0
    have y1 := x2.cell 1
    refine bodyPost_ret (v := .tuple #[.agg #[.int .i64 ((g : Int) + 1), .slice qa ql qc], .int .i64 ((g : Int) + 1), .int .i64 0]) (by simp [results, Tryd.f22, go_sem, y0, y1]) rfl ?_
    have K7F : Keeps (fun k => k = bx ∨ k = bx + 1 + 1) w6 ((w7.setCell ⟨bx + 1 + 1, 0, none⟩ (.int .i64 ((g : Int) + 1))).setCell ⟨bx + 1 + 1, 1, none⟩ (.slice qa ql qc)).drew := (KL.it.mono (fun _ e _ => .inl e)).trans ((((Keeps.refl _ w7).setCell _ _ (fun _ => .inr rfl)).setCell _ _ (fun _ => .inr rfl)).drew)
    have hW3 : w.heap.size ≤ w3.heap.size := K3.it.size
    refine ⟨qa, ql, qc, rfl, ⟨?_⟩, ⟨?_⟩⟩
    · have r := HW6.it
      have e4 : flat22 L ++ fl4 ((g : Int) + 1, ⟨xc, xl, xd⟩) = flat22 (L ++ [((g : Int) + 1, ⟨xc, xl, xd⟩)]) := (flat22_snoc _ _).symm
      rw [e4] at r
      refine owns_rdH (w := w) (base := w3.heap.size) (n := n + 1) ?_ (by simp [HN.it]) hW3
      refine owns_later r K7F (fun b hb e => ?_)
      have := owns_base r b hb
      omega
    · refine (K34.it.next K46.it (fun k e hlt => by omega)).next K7F (fun k e hlt => ?_)
      have := HBX.it
      omega
set_option maxRecDepth 20000 in
set_option maxHeartbeats 2000000 in
theorem ddrop (h : RdH own w v L) (hl : L.length ≤ 2147483648) (z : Int) :
    Calls Tryd.prog 23 #[.agg #[.int .i64 G, v], .int .i64 z] w fun e w' => ∃ qa ql qc, e = .returned (.tuple #[.agg #[.int .i64 G, .slice qa ql qc], .bool (hfind L z).isSome]) ∧ Aside (RdH (give own w.heap.size 9) w' (.slice qa ql qc) (hdel L z)) ∧ Aside (Keeps Nowhere w w') := by
  have H := Aside.mk h
  obtain ⟨a, c, rfl, hlc, hc⟩ := h
  obtain ⟨n, hn⟩ : ∃ n, L.length = n := ⟨_, rfl⟩
  have HN := Aside.mk hn
  rw [hn] at hlc hl
  obtain ⟨bx, hbx⟩ : ∃ bx, w.heap.size = bx := ⟨_, rfl⟩
  obtain ⟨W1, hW1⟩ : ∃ W1, ((w.alloc (.cells #[.int .i64 G, .slice a n c] 28)).alloc (.cells #[.int .i64 0, .slice none 0 0] 28)) = W1 := ⟨_, rfl⟩
  have K1 : Aside (Keeps Nowhere w W1) := ⟨by rw [← hW1]; exact ((Keeps.refl _ _).alloc _).alloc _⟩
  have C1 : Aside (Cells W1 bx 28 [.int .i64 G, .slice a n c]) := ⟨by rw [← hW1, ← hbx]; exact (Cells.new w _ _).later (S := Nowhere) ((Keeps.refl _ _).alloc _) (fun x => x)⟩
  have C3 : Aside (Cells W1 (bx + 1) 28 [.int .i64 0, .slice none 0 0]) := ⟨by
    have h := Cells.new (w.alloc (.cells #[.int .i64 G, .slice a n c] 28)) 28 [.int .i64 0, .slice none 0 0]
    rw [World.size_alloc, hbx] at h
    rw [← hW1]; exact h⟩
  have OF := Aside.mk (dfind (G := G) (H.it.quiet K1.it) (by rw [HN.it]; exact hl) z)
  rw [HN.it] at OF
  have HBX := Aside.mk hbx
  have d0 : W1.cell? ⟨bx, 0, none⟩ = some (.int .i64 G) := by rw [C1.it.cell]; rfl
  have d1 : W1.cell? ⟨bx, 1, none⟩ = some (.slice a n c) := by rw [C1.it.cell]; rfl
  rw [hn]
  clear hc hn
  obtain ⟨fc, fl, fd, hgp⟩ : ∃ fc fl fd, gotP (hfind L z) = ⟨fc, fl, fd⟩ := ⟨_, _, _, rfl⟩
  rw [hgp] at OF
  clear hgp
  go_enter Tryd.func23, Tryd.ntmps23
  go_upto_region 1 with fail
  clear hW1 hbx
  go_upto_region 2 with (go_at_call 24; refine OF.it.mono ?_; rintro e w2 ⟨rfl, K2⟩)
  have K2a := Aside.mk (K2.it.alloc (.cells #[.int .i64 fc, .int .i64 fl, .int .u32 (fd : Nat)] 33))
  generalize w2.alloc (.cells #[.int .i64 fc, .int .i64 fl, .int .u32 (fd : Nat)] 33) = w3 at K2a ⊢
  have K12 := Aside.mk (K1.it.trans K2a.it)
  have E1 := Aside.mk (C1.it.later K2a.it (fun x => x))
  have E3 := Aside.mk (C3.it.later K2a.it (fun x => x))
  clear OF d0 d1 C1 C3
  cases ho : hfind L z with
  | none =>
    have HD := Aside.mk (hdel_absent ho)
    have HE := Aside.mk ho
    simp only [Option.isSome_none]
    have d0 : w3.cell? ⟨bx, 0, none⟩ = some (.int .i64 G) := by rw [E1.it.cell]; rfl
    have d1 : w3.cell? ⟨bx, 1, none⟩ = some (.slice a n c) := by rw [E1.it.cell]; rfl
    have g0 : w3.cell? ⟨bx + 1, 0, none⟩ = some (.int .i64 0) := by rw [E3.it.cell]; rfl
    have g1 : w3.cell? ⟨bx + 1, 1, none⟩ = some (.slice none 0 0) := by rw [E3.it.cell]; rfl
    have h0 := E3.it.frozen 0
    have h1 := E3.it.frozen 1
    clear ho
    go_wp2_with fail
    have x2 := (E3.it.setCell 0 (.int .i64 G)).setCell 1 (.slice a n c)
    have y0 := x2.cell 0
    have y1 := x2.cell 1
    refine bodyPost_ret (v := .tuple #[.agg #[.int .i64 G, .slice a n c], .bool false]) (by simp [results, Tryd.f23, go_sem, y0, y1]) rfl ?_
    have KF : Keeps Nowhere w ((w3.setCell ⟨bx + 1, 0, none⟩ (.int .i64 G)).setCell ⟨bx + 1, 1, none⟩ (.slice a n c)) := K12.it.next (S' := fun k => k = bx + 1) (((Keeps.refl (fun k => k = bx + 1) w3).setCell ⟨bx + 1, 0, none⟩ _ (fun _ => rfl)).setCell ⟨bx + 1, 1, none⟩ _ (fun _ => rfl)) (fun k e hlt => by have := HBX.it; omega)
    refine ⟨a, n, c, by rw [HE.it]; rfl, ⟨?_⟩, ⟨KF⟩⟩
    rw [HD.it]
    have := H.it.step KF 9
    rw [HN.it] at this
    exact this
  | some y =>
    simp only [Option.isSome_some]
    have HE := Aside.mk ho
    clear ho
    have WT := Aside.mk (dwithout (H.it.quiet K12.it) (by rw [HN.it]; exact hl) z)
    rw [HN.it] at WT
    have d1 : w3.cell? ⟨bx, 1, none⟩ = some (.slice a n c) := by rw [E1.it.cell]; rfl
    have hbw : bx + 1 < w3.heap.size := E3.it.lt
    go_upto_region 4 with (go_at_call 30; refine WT.it.mono ?_; rintro e w4 ⟨v4, rfl, R4, K4⟩; obtain ⟨qa, ql, qc, hv4⟩ := owns_shapeK R4.it; subst hv4; have J1 := Aside.mk (E1.it.later K4.it (fun x => x)); have j1 : w4.cell? ⟨bx, 1, none⟩ = some (.slice a n c) := (by rw [J1.it.cell]; rfl); have fj1 := J1.it.frozen 1)
    have J3 := Aside.mk (E3.it.later K4.it (fun x => x))
    have L1 := Aside.mk (J1.it.setCell 1 (.slice qa ql qc))
    have L3 := Aside.mk (J3.it.setOther ⟨bx, 1, none⟩ (.slice qa ql qc) (by simp))
    have KL : Aside (Keeps (fun k => k = bx) w4 (w4.setCell ⟨bx, 1, none⟩ (.slice qa ql qc))) := ⟨(Keeps.refl _ _).setCell _ _ (fun _ => rfl)⟩
    generalize w4.setCell ⟨bx, 1, none⟩ (.slice qa ql qc) = w7 at L1 L3 KL ⊢
    clear d1 j1 fj1 J1 J3 WT
    have d0 : w7.cell? ⟨bx, 0, none⟩ = some (.int .i64 G) := by rw [L1.it.cell]; rfl
    have d1 : w7.cell? ⟨bx, 1, none⟩ = some (.slice qa ql qc) := by rw [L1.it.cell]; rfl
    have g0 : w7.cell? ⟨bx + 1, 0, none⟩ = some (.int .i64 0) := by rw [L3.it.cell]; rfl
    have g1 : w7.cell? ⟨bx + 1, 1, none⟩ = some (.slice none 0 0) := by rw [L3.it.cell]; rfl
    have h0 := L3.it.frozen 0
    have h1 := L3.it.frozen 1
    go_wp2_with fail
    have x2 := (L3.it.setCell 0 (.int .i64 G)).setCell 1 (.slice qa ql qc)
    have y0 := x2.cell 0
    have y1 := x2.cell 1
    refine bodyPost_ret (v := .tuple #[.agg #[.int .i64 G, .slice qa ql qc], .bool true]) (by simp [results, Tryd.f23, go_sem, y0, y1]) rfl ?_
    have K7F : Keeps (fun k => k = bx ∨ k = bx + 1) w4 ((w7.setCell ⟨bx + 1, 0, none⟩ (.int .i64 G)).setCell ⟨bx + 1, 1, none⟩ (.slice qa ql qc)) := (KL.it.mono (fun _ e _ => .inl e)).trans (((Keeps.refl _ w7).setCell _ _ (fun _ => .inr rfl)).setCell _ _ (fun _ => .inr rfl))
    have hW3 : w.heap.size ≤ w3.heap.size := K12.it.size
    refine ⟨qa, ql, qc, by rw [HE.it]; rfl, ⟨?_⟩, ⟨?_⟩⟩
    · refine owns_rdH (w := w) (base := w3.heap.size) ?_ rfl hW3
      refine owns_later R4.it K7F (fun b hb e => ?_)
      have := owns_base R4.it b hb
      omega
    · refine (K12.it.trans K4.it).next K7F (fun k e hlt => ?_)
      have := HBX.it
      omega
end Go.Proofs.YtjloedcikcamkaaDoor
