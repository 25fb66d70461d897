/-
  culvertref28: Without, First
-/
import Derived.Test.YtcmgmhdlokcgbaaDoorLuR
namespace Go.Proofs.YtcmgmhdlokcgbaaDoor
open Go.RowKit Lulnn

variable {w w' w0 W : World} {own own' : Nat → Nat} {i c o j b q n : Nat} {room R k now : Int} {L M : List Rx} {I : Nat → Prop} {A : Nat → Addr} {x y : Rx} {z : Oz} {v va vb : Value} {ks ms : List Int}

/-- a part of rows, as an append reads it -/
theorem RdX.reads {g m lo off cap : Nat} (h : RdX own w (.slice (some ⟨g, 0, none⟩) n c) L) (hk : Keeps Nowhere w W) (hm : lo + m ≤ L.length) (ho : off = lo * 4) (hcap : m ≤ cap) (hcm : cap ≤ maxLen) : ReadsK 4 W (.slice (some ⟨g, off, none⟩) m cap) m (f4 ((L.drop lo).take m)) := by
  subst ho
  have hl : ((L.drop lo).take m).length = m := by rw [List.length_take, List.length_drop]; omega
  refine ⟨by rw [f4_len, hl], _, _, rfl, hcap, hcm, fun e => (by cases e), fun p u hp => ?_⟩
  obtain ⟨j, x, k, rfl, hk4, hj, hu⟩ := f4_inv _ p u hp
  rw [List.getElem?_take] at hj
  split at hj
  · rw [List.getElem?_drop] at hj
    obtain ⟨g', c', e, _, c0, c1, c2, c3⟩ := h.at_ (lo + j) x hj
    injection e with e1 e2 e3
    injection e1 with e1
    injection e1 with e1
    subst e1
    have hb := hk.block g (World.block_lt_of_cell? w _ c0) (fun x => x)
    refine ⟨g, lo * 4, rfl, ?_⟩
    rw [World.cell?_of_block (w := w) hb]
    have e0 : lo * 4 + (j * 4 + k) = (lo + j) * 4 + k := by rw [Nat.add_mul]; omega
    rw [e0]
    match k, hk4 with
    | 0, _ => rw [Nat.add_zero, c0]; simpa using hu
    | 1, _ => rw [c1]; simpa using hu
    | 2, _ => rw [c2]; simpa using hu
    | 3, _ => rw [c3]; simpa using hu
  · cases hj
theorem RdX.readsAll (h : RdX own w v L) (hk : Keeps Nowhere w W) : ReadsK 4 W v L.length (f4 L) := by
  cases L with
  | nil =>
    obtain ⟨a, c, rfl, h1, h2, h3⟩ := h.sh
    exact ⟨rfl, a, c, rfl, h1, h2, h3, fun p u hp => by simp [f4] at hp⟩
  | cons x L =>
    obtain ⟨g, c, e, _⟩ := h.at_ 0 x rfl
    obtain ⟨a, c', e', h1, h2, _⟩ := h.sh
    rw [e] at e' h
    injection e' with _ _ e3
    subst e3
    have := h.reads (lo := 0) (off := 0) (m := (x :: L).length) hk (by omega) (by omega) h1 h2
    rw [List.drop_zero, List.take_length] at this
    rw [e]
    exact this
theorem owns_empty4 (w : World) (e : TypeId) (k : Nat) : (w.alloc (.cells #[] e)).ownsRow w.heap.size e k (.slice (some ⟨w.heap.size, 0, none⟩) 0 0) 0 [] := by
  refine ⟨by simp, .inr ⟨w.heap.size, 0, #[], rfl, Nat.le_refl _, Cells.new w e [], Nat.le_refl _, Nat.zero_le _, by simp, by simp⟩⟩
theorem erase_td (L : List Rx) (i : Nat) : L.eraseIdx i = L.take i ++ (L.drop (i + 1)).take (L.length - (i + 1)) := by
  rw [List.eraseIdx_eq_take_drop_succ]
  congr 1
  rw [List.take_of_length_le]
  rw [List.length_drop]; exact Nat.le_refl _
theorem x4_one : ∀ L : List Rx, ∀ u ∈ f4 L, u.oneCell' = true := fun L u hu => by
  obtain ⟨x, _, hx⟩ := List.mem_flatMap.1 hu
  simp only [x4, List.mem_cons, List.not_mem_nil, or_false] at hx
  rcases hx with rfl | rfl | rfl | rfl <;> rfl
set_option maxRecDepth 20000 in
set_option maxHeartbeats 2000000 in
theorem dwithout (h : RdX own w v L) (R : Int) (hi : i < L.length) (hmax : L.length * 32 ≤ 140737488355328) : Calls Tryd.prog 79 #[cch R v, .int .i64 i] w fun e w' => ∃ qa qn qc, e = .returned (cch R (.slice qa qn qc)) ∧ Aside (w'.ownsRow w.heap.size 102 4 (.slice qa qn qc) (L.eraseIdx i).length (f4 (L.eraseIdx i))) ∧ Aside (Keeps Nowhere w w') := by
  have H := Aside.mk h
  obtain ⟨a, c, rfl, hlc, hcm, _⟩ := h.sh
  have mx : maxLen ≤ 9223372036854775807 := by decide
  obtain ⟨g, rfl⟩ : ∃ g, a = some ⟨g, 0, none⟩ := by
    obtain ⟨g, c', e, _⟩ := h.at_ i _ (List.getElem?_eq_getElem hi)
    injection e with e1
    exact ⟨g, e1⟩
  clear h
  obtain ⟨W1, hW1⟩ : ∃ W1, (w.alloc (.cells #[.int .i64 R, .slice (some ⟨g, 0, none⟩) L.length c] 31)).alloc (.cells #[.int .i64 0, .slice none 0 0] 31) = W1 := ⟨_, rfl⟩
  have K1 : Aside (Keeps Nowhere w W1) := ⟨by rw [← hW1]; exact ((Keeps.refl _ _).alloc _).alloc _⟩
  have C1 : Aside (Cells W1 w.heap.size 31 [.int .i64 R, .slice (some ⟨g, 0, none⟩) L.length c]) := ⟨by rw [← hW1]; exact (Cells.new w _ _).later (S := Nowhere) ((Keeps.refl _ _).alloc _) (fun x => x)⟩
  have C2 : Aside (Cells W1 (w.heap.size + 1) 31 [.int .i64 0, .slice none 0 0]) := ⟨by
    have h := Cells.new (w.alloc (.cells #[.int .i64 R, .slice (some ⟨g, 0, none⟩) L.length c] 31)) 31 [.int .i64 0, .slice none 0 0]
    rw [World.size_alloc] at h
    rw [← hW1]; exact h⟩
  have d1 : W1.cell? ⟨w.heap.size, 1, none⟩ = some (.slice (some ⟨g, 0, none⟩) L.length c) := by rw [C1.it.cell]; rfl
  have d1a : ∀ o, (W1.alloc o).cell? ⟨w.heap.size, 1, none⟩ = some (.slice (some ⟨g, 0, none⟩) L.length c) := fun o => by
    have : (W1.alloc o).cell? ⟨w.heap.size, 1, none⟩ = _ := World.cell?_of_block (w := W1) (((Keeps.refl Nowhere W1).alloc o).block w.heap.size C1.it.lt (fun x => x))
    rw [this]; exact d1
  have OE := Aside.mk (owns_empty4 W1 102 4)
  have hi1 : (i : Int) ≤ c := by omega
  have tl : (L.take i).length = i := by rw [List.length_take]; omega
  have b1 : (0 + i) * 32 ≤ 140737488355328 := by omega
  have b2 : 0 + i ≤ maxLen := by omega
  have x1c := x4_one
  go_enter Tryd.func79, Tryd.ntmps79
  go_upto_region 1 with fail
  clear hW1
  go_upto_region 2 with (first
    | (at_builtin; refine wpList_appendR rfl _ _ 29 rfl 102 (.agg #[.int .i64 0, .int .i64 0, .int .i64 0, .int .i64 0]) 4 32 Tryd.underlying29 info4 rfl (by decide) (W1.alloc (.cells #[] 102)) (Keeps.refl _ _) W1.heap.size _ 0 [] OE.it _ i (f4 ((L.drop 0).take i)) (H.it.reads (lo := 0) (off := 0) (m := i) (cap := c) (K1.it.alloc _) (by omega) rfl (by omega) hcm) (x1c _) b1 b2 (by rw [World.size_alloc]; omega) rfl rfl ?_
       intro v5 w5 o5 k5 b5
       have K5 : Aside (Keeps Nowhere W1 w5) := ⟨((Keeps.refl Nowhere W1).alloc _).next k5.it (fun x e hlt => by simp [Value.ownBlock] at e; omega)⟩
       obtain ⟨p1, p2, p3, hv5⟩ := owns_shapeK o5.it
       subst hv5)
    | fail)
  have C1lt := Aside.mk C1.it.lt
  have C2lt := Aside.mk C2.it.lt
  have D1 := Aside.mk (C1.it.later K5.it (fun x => x))
  have D2 := Aside.mk (C2.it.later K5.it (fun x => x))
  have d5 : w5.cell? ⟨w.heap.size, 1, none⟩ = some (.slice (some ⟨g, 0, none⟩) L.length c) := by rw [D1.it.cell]; rfl
  have f5 := D1.it.frozen 1
  have O5 : Aside (w5.ownsRow W1.heap.size 102 4 (.slice p1 p2 p3) i (f4 (L.take i))) := ⟨by have r := o5.it; rw [List.drop_zero, List.nil_append, Nat.zero_add] at r; exact r⟩
  clear o5 k5 b5 d1 d1a OE C1 C2
  have hi3 : ((i : Int) + 1) ≤ L.length := by omega
  have hi4 : (i : Int) + 1 ≤ 9223372036854775807 := by omega
  have RR : Aside (ReadsK 4 w5 (.slice (if c = i + 1 then some ⟨g, 0, none⟩ else some ⟨g, (i + 1) * 4, none⟩) (L.length - (i + 1)) (c - (i + 1))) (L.length - (i + 1)) (f4 ((L.drop (i + 1)).take (L.length - (i + 1))))) := ⟨by
    by_cases hc : c = i + 1
    · rw [if_pos hc]
      have h0 : L.length - (i + 1) = 0 := by omega
      rw [h0]
      have := H.it.reads (lo := 0) (off := 0) (m := 0) (cap := c - (i + 1)) (K1.it.trans K5.it) (by omega) rfl (by omega) (by omega)
      rw [List.take_zero] at this ⊢
      exact this
    · rw [if_neg hc]
      exact H.it.reads (lo := i + 1) (m := L.length - (i + 1)) (cap := c - (i + 1)) (K1.it.trans K5.it) (by omega) rfl (by omega) (by omega)⟩
  have b3 : (i + (L.length - (i + 1))) * 32 ≤ 140737488355328 := by omega
  have b4 : i + (L.length - (i + 1)) ≤ maxLen := by omega
  go_upto_region 3 with (first
    | (at_builtin; refine wpList_appendR rfl _ _ 29 rfl 102 (.agg #[.int .i64 0, .int .i64 0, .int .i64 0, .int .i64 0]) 4 32 Tryd.underlying29 info4 rfl (by decide) w5 (Keeps.refl _ _) W1.heap.size _ i _ O5.it _ (L.length - (i + 1)) _ RR.it (x1c _) b3 b4 K5.it.size rfl rfl ?_
       intro v6 w6 o6 k6 b6
       have K6 : Aside (Keeps Nowhere W1 w6) := ⟨K5.it.next k6.it (fun x e hlt => by have := owns_base O5.it x e; omega)⟩
       obtain ⟨r1, r2, r3, hv6⟩ := owns_shapeK o6.it
       subst hv6
       have E1 := Aside.mk (D1.it.later k6.it (fun e => by have h1 := owns_base O5.it _ e; have h2 := C1lt.it; omega))
       have E2 := Aside.mk (D2.it.later k6.it (fun e => by have h1 := owns_base O5.it _ e; have h2 := C2lt.it; omega))
       have e5 : w6.cell? ⟨w.heap.size, 1, none⟩ = some (.slice (some ⟨g, 0, none⟩) L.length c) := (by rw [E1.it.cell]; rfl)
       have e6 := E1.it.frozen 1)
    | fail)
  have O6 : Aside (w6.ownsRow W1.heap.size 102 4 (.slice r1 r2 r3) (L.eraseIdx i).length (f4 (L.eraseIdx i))) := ⟨by
    have r := o6.it
    rw [← f4_append, ← erase_td] at r
    have el : i + (L.length - (i + 1)) = (L.eraseIdx i).length := by rw [List.length_eraseIdx_of_lt hi]; omega
    rw [el] at r
    exact r⟩
  clear o6 k6 b6 e5 e6 d5 f5 D1 D2 RR O5
  generalize (if c = i + 1 then some (⟨g, 0, none⟩ : Addr) else some ⟨g, (i + 1) * 4, none⟩) = za
  have F1 := Aside.mk (E1.it.setCell 1 (.slice r1 r2 r3))
  have F2 := Aside.mk (E2.it.setOther ⟨w.heap.size, 1, none⟩ (.slice r1 r2 r3) (by simp))
  have KF : Aside (Keeps (fun x => x = w.heap.size) w6 (w6.setCell ⟨w.heap.size, 1, none⟩ (.slice r1 r2 r3))) := ⟨(Keeps.refl _ _).setCell _ _ (fun _ => rfl)⟩
  generalize w6.setCell ⟨w.heap.size, 1, none⟩ (.slice r1 r2 r3) = w7 at F1 F2 KF ⊢
  have y0 : w7.cell? ⟨w.heap.size, 0, none⟩ = some (.int .i64 R) := by rw [F1.it.cell]; rfl
  have y1 : w7.cell? ⟨w.heap.size, 1, none⟩ = some (.slice r1 r2 r3) := by rw [F1.it.cell]; rfl
  have z0 : w7.cell? ⟨w.heap.size + 1, 0, none⟩ = some (.int .i64 0) := by rw [F2.it.cell]; rfl
  have z1 : w7.cell? ⟨w.heap.size + 1, 1, none⟩ = some (.slice none 0 0) := by rw [F2.it.cell]; rfl
  have h0 := F2.it.frozen 0
  have h1 := F2.it.frozen 1
  go_wp2_with fail
  have x2 := (F2.it.setCell 0 (.int .i64 R)).setCell 1 (.slice r1 r2 r3)
  have u0 := x2.cell 0
  have u1 := x2.cell 1
  refine bodyPost_ret (v := cch R (.slice r1 r2 r3)) (by simp [results, Tryd.f79, go_sem, u0, u1]) rfl ?_
  have KG : Keeps (fun x => x = w.heap.size ∨ x = w.heap.size + 1) w6 ((w7.setCell ⟨w.heap.size + 1, 0, none⟩ (.int .i64 R)).setCell ⟨w.heap.size + 1, 1, none⟩ (.slice r1 r2 r3)) := (KF.it.mono (fun x e _ => .inl e)).trans (((Keeps.refl _ _).setCell _ _ (fun _ => .inr rfl)).setCell _ _ (fun _ => .inr rfl))
  have c1l := C1lt.it
  have c2l := C2lt.it
  refine ⟨r1, r2, r3, rfl, ⟨?_⟩, ⟨(K1.it.trans K6.it).next KG (fun x e hlt => by omega)⟩⟩
  refine owns_base_le (owns_later O6.it KG (fun b hb e => ?_)) K1.it.size
  have := owns_base O6.it b hb
  omega
theorem owns_one4 (w : World) (x : Rx) : (w.alloc (.cells (x4 x).toArray 102)).ownsRow w.heap.size 102 4 (.slice (some ⟨w.heap.size, 0, none⟩) 1 1) 1 (f4 [x]) := by
  rw [f4_one]
  exact ⟨by simp, .inr ⟨w.heap.size, 1, (x4 x).toArray, rfl, Nat.le_refl _, Cells.new w 102 (x4 x), Nat.le_refl _, by decide, by simp, by simp⟩⟩
set_option maxRecDepth 20000 in
set_option maxHeartbeats 2000000 in
theorem dfirst (h : RdX own w v L) (R : Int) (x : Rx) (hmax : (1 + L.length) * 32 ≤ 140737488355328) : Calls Tryd.prog 80 #[cch R v, .agg #[.int .i64 x.k, .int .i64 x.t, .int .i64 x.w, .int .i64 x.u]] w fun e w' => ∃ qa qn qc, e = .returned (cch R (.slice qa qn qc)) ∧ Aside (w'.ownsRow w.heap.size 102 4 (.slice qa qn qc) (x :: L).length (f4 (x :: L))) ∧ Aside (Keeps Nowhere w w') := by
  have H := Aside.mk h
  obtain ⟨a, c, rfl, hlc, hcm, _⟩ := h.sh
  have mx : maxLen ≤ 9223372036854775807 := by decide
  clear h
  obtain ⟨W1, hW1⟩ : ∃ W1, ((w.alloc (.cells #[.int .i64 R, .slice a L.length c] 31)).alloc (.cells #[.int .i64 x.k, .int .i64 x.t, .int .i64 x.w, .int .i64 x.u] 102)).alloc (.cells #[.int .i64 0, .slice none 0 0] 31) = W1 := ⟨_, rfl⟩
  have K1 : Aside (Keeps Nowhere w W1) := ⟨by rw [← hW1]; exact (((Keeps.refl _ _).alloc _).alloc _).alloc _⟩
  have C1 : Aside (Cells W1 w.heap.size 31 [.int .i64 R, .slice a L.length c]) := ⟨by rw [← hW1]; exact (Cells.new w _ _).later (S := Nowhere) (((Keeps.refl _ _).alloc _).alloc _) (fun x => x)⟩
  have CX : Aside (Cells W1 (w.heap.size + 1) 102 [.int .i64 x.k, .int .i64 x.t, .int .i64 x.w, .int .i64 x.u]) := ⟨by
    have h := Cells.new (w.alloc (.cells #[.int .i64 R, .slice a L.length c] 31)) 102 [.int .i64 x.k, .int .i64 x.t, .int .i64 x.w, .int .i64 x.u]
    rw [World.size_alloc] at h
    rw [← hW1]; exact h.later (S := Nowhere) ((Keeps.refl _ _).alloc _) (fun x => x)⟩
  have C2 : Aside (Cells W1 (w.heap.size + 1 + 1) 31 [.int .i64 0, .slice none 0 0]) := ⟨by
    have h := Cells.new ((w.alloc (.cells #[.int .i64 R, .slice a L.length c] 31)).alloc (.cells #[.int .i64 x.k, .int .i64 x.t, .int .i64 x.w, .int .i64 x.u] 102)) 31 [.int .i64 0, .slice none 0 0]
    rw [World.size_alloc, World.size_alloc] at h
    rw [← hW1]; exact h⟩
  have d1 : W1.cell? ⟨w.heap.size, 1, none⟩ = some (.slice a L.length c) := by rw [C1.it.cell]; rfl
  have p0 : W1.cell? ⟨w.heap.size + 1, 0, none⟩ = some (.int .i64 x.k) := by rw [CX.it.cell]; rfl
  have p1 : W1.cell? ⟨w.heap.size + 1, 1, none⟩ = some (.int .i64 x.t) := by rw [CX.it.cell]; rfl
  have p2 : W1.cell? ⟨w.heap.size + 1, 2, none⟩ = some (.int .i64 x.w) := by rw [CX.it.cell]; rfl
  have p3 : W1.cell? ⟨w.heap.size + 1, 3, none⟩ = some (.int .i64 x.u) := by rw [CX.it.cell]; rfl
  have d1a : ∀ o, (W1.alloc o).cell? ⟨w.heap.size, 1, none⟩ = some (.slice a L.length c) := fun o => alloc_cell o d1
  have OE := Aside.mk (owns_one4 W1 x)
  have RR := Aside.mk (H.it.readsAll (K1.it.alloc (.cells (x4 x).toArray 102)))
  have C1lt := Aside.mk C1.it.lt
  have C2lt := Aside.mk C2.it.lt
  have b1 : 1 + L.length ≤ maxLen := Nat.le_trans (show 1 + L.length ≤ 140737488355328 by omega) (by decide)
  go_enter Tryd.func80, Tryd.ntmps80
  go_upto_region 1 with fail
  clear hW1
  go_upto_region 2 with (first
    | (at_builtin; refine wpList_appendR rfl _ _ 29 rfl 102 (.agg #[.int .i64 0, .int .i64 0, .int .i64 0, .int .i64 0]) 4 32 Tryd.underlying29 info4 rfl (by decide) (W1.alloc (.cells (x4 x).toArray 102)) (Keeps.refl _ _) W1.heap.size _ 1 _ OE.it _ L.length _ RR.it (x4_one _) hmax b1 (by rw [World.size_alloc]; omega) rfl rfl ?_
       intro v6 w6 o6 k6 b6
       have K6 : Aside (Keeps Nowhere W1 w6) := ⟨((Keeps.refl Nowhere W1).alloc _).next k6.it (fun x e hlt => by simp [Value.ownBlock] at e; omega)⟩
       obtain ⟨r1, r2, r3, hv6⟩ := owns_shapeK o6.it
       subst hv6
       have E1 := Aside.mk (C1.it.later K6.it (fun x => x))
       have E2 := Aside.mk (C2.it.later K6.it (fun x => x))
       have e5 : w6.cell? ⟨w.heap.size, 1, none⟩ = some (.slice a L.length c) := (by rw [E1.it.cell]; rfl)
       have e6 := E1.it.frozen 1)
    | fail)
  have O6 : Aside (w6.ownsRow W1.heap.size 102 4 (.slice r1 r2 r3) (x :: L).length (f4 (x :: L))) := ⟨by
    have r := o6.it
    rw [← f4_append, List.singleton_append, Nat.add_comm] at r
    exact r⟩
  clear o6 k6 b6 e5 e6 d1 d1a p0 p1 p2 p3 RR OE
  have F1 := Aside.mk (E1.it.setCell 1 (.slice r1 r2 r3))
  have F2 := Aside.mk (E2.it.setOther ⟨w.heap.size, 1, none⟩ (.slice r1 r2 r3) (by simp; omega))
  have KF : Aside (Keeps (fun x => x = w.heap.size) w6 (w6.setCell ⟨w.heap.size, 1, none⟩ (.slice r1 r2 r3))) := ⟨(Keeps.refl _ _).setCell _ _ (fun _ => rfl)⟩
  generalize w6.setCell ⟨w.heap.size, 1, none⟩ (.slice r1 r2 r3) = w7 at F1 F2 KF ⊢
  have y0 : w7.cell? ⟨w.heap.size, 0, none⟩ = some (.int .i64 R) := by rw [F1.it.cell]; rfl
  have y1 : w7.cell? ⟨w.heap.size, 1, none⟩ = some (.slice r1 r2 r3) := by rw [F1.it.cell]; rfl
  have z0 : w7.cell? ⟨w.heap.size + 1 + 1, 0, none⟩ = some (.int .i64 0) := by rw [F2.it.cell]; rfl
  have z1 : w7.cell? ⟨w.heap.size + 1 + 1, 1, none⟩ = some (.slice none 0 0) := by rw [F2.it.cell]; rfl
  have h0 := F2.it.frozen 0
  have h1 := F2.it.frozen 1
  go_wp2_with fail
  have x2 := (F2.it.setCell 0 (.int .i64 R)).setCell 1 (.slice r1 r2 r3)
  have u0 := x2.cell 0
  have u1 := x2.cell 1
  refine bodyPost_ret (v := cch R (.slice r1 r2 r3)) (by simp [results, Tryd.f80, go_sem, u0, u1]) rfl ?_
  have KG : Keeps (fun x => x = w.heap.size ∨ x = w.heap.size + 1 + 1) w6 ((w7.setCell ⟨w.heap.size + 1 + 1, 0, none⟩ (.int .i64 R)).setCell ⟨w.heap.size + 1 + 1, 1, none⟩ (.slice r1 r2 r3)) := (KF.it.mono (fun x e _ => .inl e)).trans (((Keeps.refl _ _).setCell _ _ (fun _ => .inr rfl)).setCell _ _ (fun _ => .inr rfl))
  have c1l := C1lt.it
  have c2l := C2lt.it
  refine ⟨r1, r2, r3, rfl, ⟨?_⟩, ⟨(K1.it.trans K6.it).next KG (fun x e hlt => by omega)⟩⟩
  refine owns_base_le (owns_later O6.it KG (fun b hb e => ?_)) K1.it.size
  have := owns_base O6.it b hb
  omega
end Go.Proofs.YtcmgmhdlokcgbaaDoor
