/-
  culvertref28: New, Drop, Get
-/
import Derived.Test.YtcmgmhdlokcgbaaDoorLuQ
namespace Go.Proofs.YtcmgmhdlokcgbaaDoor
open Go.RowKit Lulnn

variable {w w' w0 W : World} {own own' : Nat → Nat} {i c o j b q n cb xb rb : Nat} {room R k now : Int} {L M : List Rx} {I : Nat → Prop} {A : Nat → Addr} {x y : Rx} {z : Oz} {v va vb : Value} {ks ms : List Int}

theorem find_split (h : findL L k = some x) : ∃ j, L[j]? = some x ∧ (∀ y ∈ L.take j, y.k ≠ k) ∧ L.eraseIdx j = dropL L k ∧ j < L.length := by
  induction L with
  | nil => cases h
  | cons a L ih =>
    by_cases e : a.k = k
    · refine ⟨0, ?_, fun y hy => by simp at hy, ?_, by simp⟩
      · unfold findL at h
        rw [List.find?_cons_of_pos (by simpa using e)] at h
        exact h
      · unfold dropL
        rw [List.eraseP_cons_of_pos (by simpa using e)]
        rfl
    · unfold findL at h
      rw [List.find?_cons_of_neg (by simpa using e)] at h
      obtain ⟨j, h1, h2, h3, h4⟩ := ih h
      refine ⟨j + 1, h1, fun y hy => ?_, ?_, by simp; omega⟩
      · rw [List.take_succ_cons, List.mem_cons] at hy
        rcases hy with rfl | hy
        · exact e
        · exact h2 y hy
      · unfold dropL at h3 ⊢
        rw [List.eraseP_cons_of_neg (by simpa using e), List.eraseIdx_cons_succ, h3]
theorem at_none (h : findL L k = none) : atI L k = -1 := atI_none fun y hy e => findL_none h (List.mem_map.2 ⟨y, hy, e⟩)
/-- two boxes of the document's cache above a world -/
theorem boxes28 (w : World) (R : Int) (v : Value) (W1 : World) (hW1 : (w.alloc (.cells #[.int .i64 R, v] 31)).alloc (.cells #[.int .i64 0, .slice none 0 0] 31) = W1) :
    Aside (Keeps Nowhere w W1) ∧ Aside (Cells W1 w.heap.size 31 [.int .i64 R, v]) ∧ Aside (Cells W1 (w.heap.size + 1) 31 [.int .i64 0, .slice none 0 0]) := by
  refine ⟨⟨by rw [← hW1]; exact ((Keeps.refl _ _).alloc _).alloc _⟩, ⟨by rw [← hW1]; exact (Cells.new w _ _).later (S := Nowhere) ((Keeps.refl _ _).alloc _) (fun x => x)⟩, ⟨?_⟩⟩
  have h := Cells.new (w.alloc (.cells #[.int .i64 R, v] 31)) 31 [.int .i64 0, .slice none 0 0]
  rw [World.size_alloc] at h
  rw [← hW1]; exact h
/-- the result is written -/
theorem res28 {r0 r1 : Value} (w : World) (h : Cells W rb 31 [r0, r1]) (hw : w.heap.size ≤ rb) (K : Keeps Nowhere w W) (R : Int) (v : Value) : ((W.setCell ⟨rb, 0, none⟩ (.int .i64 R)).setCell ⟨rb, 1, none⟩ v).cell? ⟨rb, 0, none⟩ = some (.int .i64 R) ∧ ((W.setCell ⟨rb, 0, none⟩ (.int .i64 R)).setCell ⟨rb, 1, none⟩ v).cell? ⟨rb, 1, none⟩ = some v ∧ Aside (Keeps Nowhere w ((W.setCell ⟨rb, 0, none⟩ (.int .i64 R)).setCell ⟨rb, 1, none⟩ v)) ∧ Aside (Keeps (fun x => x = rb) W ((W.setCell ⟨rb, 0, none⟩ (.int .i64 R)).setCell ⟨rb, 1, none⟩ v)) := by
  have x2 := (h.setCell 0 (.int .i64 R)).setCell 1 v
  have kk : Keeps (fun x => x = rb) W ((W.setCell ⟨rb, 0, none⟩ (.int .i64 R)).setCell ⟨rb, 1, none⟩ v) := ((Keeps.refl (fun x => x = rb) W).setCell ⟨rb, 0, none⟩ _ (fun _ => rfl)).setCell ⟨rb, 1, none⟩ _ (fun _ => rfl)
  exact ⟨by rw [x2.cell]; rfl, by rw [x2.cell]; rfl, ⟨K.next kk (fun x e hlt => by omega)⟩, ⟨kk⟩⟩
set_option maxRecDepth 20000 in
set_option maxHeartbeats 1000000 in
theorem dnew (w : World) (room : Int) : Calls Tryd.prog 11 #[.int .i64 room] w fun e w' => e = .returned (.tuple #[cch (if room < 0 then 0 else room) (.slice none 0 0), .int .i64 (if room < 0 then 2 else 0)]) ∧ Aside (Keeps Nowhere w w') := by
  have K1 : Aside (Keeps Nowhere w (w.alloc (.cells #[.int .i64 0, .slice none 0 0] 31))) := ⟨(Keeps.refl _ _).alloc _⟩
  have C1 : Aside (Cells (w.alloc (.cells #[.int .i64 0, .slice none 0 0] 31)) w.heap.size 31 [.int .i64 0, .slice none 0 0]) := ⟨Cells.new w _ _⟩
  by_cases hr : room < 0
  · rw [if_pos hr, if_pos hr]
    go_enter Tryd.func11, Tryd.ntmps11
    go_upto_region 1 with fail
    generalize w.alloc (.cells #[.int .i64 0, .slice none 0 0] 31) = W1 at K1 C1 ⊢
    have z0 : W1.cell? ⟨w.heap.size, 0, none⟩ = some (.int .i64 0) := by rw [C1.it.cell]; rfl
    have z1 : W1.cell? ⟨w.heap.size, 1, none⟩ = some (.slice none 0 0) := by rw [C1.it.cell]; rfl
    have h0 := C1.it.frozen 0
    have h1 := C1.it.frozen 1
    go_wp2_with fail
    obtain ⟨u0, u1, KF, _⟩ := res28 w C1.it (Nat.le_refl _) K1.it 0 (.slice none 0 0)
    refine bodyPost_ret (v := .tuple #[cch 0 (.slice none 0 0), .int .i64 2]) (by simp [results, Tryd.f11, go_sem, u0, u1]) rfl ?_
    exact ⟨rfl, KF⟩
  · rw [if_neg hr, if_neg hr]
    go_enter Tryd.func11, Tryd.ntmps11
    go_upto_region 1 with fail
    generalize w.alloc (.cells #[.int .i64 0, .slice none 0 0] 31) = W1 at K1 C1 ⊢
    have z0 : W1.cell? ⟨w.heap.size, 0, none⟩ = some (.int .i64 0) := by rw [C1.it.cell]; rfl
    have z1 : W1.cell? ⟨w.heap.size, 1, none⟩ = some (.slice none 0 0) := by rw [C1.it.cell]; rfl
    have h0 := C1.it.frozen 0
    have h1 := C1.it.frozen 1
    go_wp2_with fail
    obtain ⟨u0, u1, KF, _⟩ := res28 w C1.it (Nat.le_refl _) K1.it room (.slice none 0 0)
    refine bodyPost_ret (v := .tuple #[cch room (.slice none 0 0), .int .i64 0]) (by simp [results, Tryd.f11, go_sem, u0, u1]) rfl ?_
    exact ⟨rfl, KF⟩
set_option maxRecDepth 20000 in
set_option maxHeartbeats 2000000 in
theorem ddrop28 (h : RdX own w v L) (R k : Int) (hmax : L.length * 32 ≤ 140737488355328) : Calls Tryd.prog 51 #[cch R v, .int .i64 k] w fun e w' => ∃ qa qn qc, e = .returned (.tuple #[cch R (.slice qa qn qc), .bool (hasL L k)]) ∧ Aside (RdX (give own w.heap.size 9) w' (.slice qa qn qc) (dropL L k)) ∧ Aside (Keeps Nowhere w w') := by
  have H := Aside.mk h
  obtain ⟨a, c, rfl, hlc, hcm, _⟩ := h.sh
  clear h
  obtain ⟨W1, hW1⟩ : ∃ W1, (w.alloc (.cells #[.int .i64 R, .slice a L.length c] 31)).alloc (.cells #[.int .i64 0, .slice none 0 0] 31) = W1 := ⟨_, rfl⟩
  obtain ⟨K1, C1, C2⟩ := boxes28 w R (.slice a L.length c) W1 hW1
  have d0 : W1.cell? ⟨w.heap.size, 0, none⟩ = some (.int .i64 R) := by rw [C1.it.cell]; rfl
  have d1 : W1.cell? ⟨w.heap.size, 1, none⟩ = some (.slice a L.length c) := by rw [C1.it.cell]; rfl
  have DA := Aside.mk (dat (H.it.quiet K1.it) R k)
  unfold hasL
  cases hf : findL L k with
  | none =>
    rw [at_none hf] at DA
    have HD := Aside.mk (dropL_none hf)
    go_enter Tryd.func51, Tryd.ntmps51
    go_upto_region 1 with fail
    clear hW1
    go_upto_region 2 with (first | (go_at_call 50; refine DA.it.mono ?_; clear DA; rintro e w2 ⟨rfl, K2⟩) | fail)
    have E1 := Aside.mk (C1.it.later K2.it (fun x => x))
    have E2 := Aside.mk (C2.it.later K2.it (fun x => x))
    clear d0 d1
    have d0 : w2.cell? ⟨w.heap.size, 0, none⟩ = some (.int .i64 R) := by rw [E1.it.cell]; rfl
    have d1 : w2.cell? ⟨w.heap.size, 1, none⟩ = some (.slice a L.length c) := by rw [E1.it.cell]; rfl
    have z0 : w2.cell? ⟨w.heap.size + 1, 0, none⟩ = some (.int .i64 0) := by rw [E2.it.cell]; rfl
    have z1 : w2.cell? ⟨w.heap.size + 1, 1, none⟩ = some (.slice none 0 0) := by rw [E2.it.cell]; rfl
    have h0 := E2.it.frozen 0
    have h1 := E2.it.frozen 1
    go_wp2_with fail
    obtain ⟨u0, u1, KF, _⟩ := res28 w E2.it (Nat.le_succ _) (K1.it.trans K2.it) R (.slice a L.length c)
    refine bodyPost_ret (v := .tuple #[cch R (.slice a L.length c), .bool false]) (by simp [results, Tryd.f51, go_sem, u0, u1]) rfl ?_
    refine ⟨_, _, _, rfl, ⟨?_⟩, KF⟩
    rw [HD.it]
    exact H.it.sn (I := fun _ => False) (Sn.quiet KF.it 9) (fun x => x)
  | some x =>
    obtain ⟨j, hj, ht, he, hjl⟩ := find_split hf
    rw [atI_drop hj ht (findL_some hf).2] at DA
    have HE := Aside.mk he
    go_enter Tryd.func51, Tryd.ntmps51
    go_upto_region 1 with fail
    clear hW1
    go_upto_region 2 with (first | (go_at_call 50; refine DA.it.mono ?_; clear DA; rintro e w2 ⟨rfl, K2⟩) | fail)
    have E1 := Aside.mk (C1.it.later K2.it (fun x => x))
    have E2 := Aside.mk (C2.it.later K2.it (fun x => x))
    clear d0 d1
    have d0 : w2.cell? ⟨w.heap.size, 0, none⟩ = some (.int .i64 R) := by rw [E1.it.cell]; rfl
    have d1 : w2.cell? ⟨w.heap.size, 1, none⟩ = some (.slice a L.length c) := by rw [E1.it.cell]; rfl
    have WO := Aside.mk (dwithout (H.it.quiet (K1.it.trans K2.it)) R hjl hmax)
    have E2lt := E2.it.lt
    clear hj ht he hf
    go_wp2_with (first
      | (go_at_call 79; refine WO.it.mono ?_; clear WO; rintro e w3 ⟨qa, qn, qc, rfl, O3, K3⟩
         have F2 := Aside.mk (E2.it.later K3.it (fun x => x))
         have z0 : w3.cell? ⟨w.heap.size + 1, 0, none⟩ = some (.int .i64 0) := (by rw [F2.it.cell]; rfl)
         have z1 : w3.cell? ⟨w.heap.size + 1, 1, none⟩ = some (.slice none 0 0) := (by rw [F2.it.cell]; rfl)
         have h0 := F2.it.frozen 0
         have h1 := F2.it.frozen 1)
      | fail)
    obtain ⟨u0, u1, KF, KR⟩ := res28 w F2.it (Nat.le_succ _) ((K1.it.trans K2.it).trans K3.it) R (.slice qa qn qc)
    refine bodyPost_ret (v := .tuple #[cch R (.slice qa qn qc), .bool true]) (by simp [results, Tryd.f51, go_sem, u0, u1]) rfl ?_
    refine ⟨_, _, _, rfl, ⟨?_⟩, KF⟩
    rw [← HE.it]
    exact owns_rdN (owns_later O3.it KR.it (fun b hb e => by have := owns_base O3.it b hb; omega)) rfl (K1.it.trans K2.it).size
end Go.Proofs.YtcmgmhdlokcgbaaDoor
