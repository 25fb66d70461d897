/-
  law 12: the document's Add, Remove, Next
-/
import Derived.Test.YtekokdfajbajoaaDoorRf12
import Derived.Test.YtekokdfajbajoaaDoorRbP
namespace Go.Proofs.YtekokdfajbajoaaDoor
open Go.RowKit

variable {w w' : World} {v u : Value} {xs : List Int} {k : Int}

/-- a list that is answered: the old one, or one in new memory -/
def LiN (w w' : World) (v v' : Value) (ys : List Int) : Prop := RdI w' v' ys ∧ ∀ b, v'.ownBlock = some b → v.ownBlock = some b ∨ (w.heap.size ≤ b ∧ b < w'.heap.size)
theorem owns_LiN {B : Nat} {ys : List Int} (h : w'.ownsRow B 3 1 v ys.length (iv ys)) (hB : w.heap.size ≤ B) (hz : ∀ z ∈ ys, -9223372036854775808 ≤ z ∧ z ≤ 9223372036854775807) : LiN w w' u v ys :=
  ⟨owns_rdI h hz, fun b hb => .inr ⟨Nat.le_trans hB (owns_base h b hb), owns_lt h b hb⟩⟩
set_option maxHeartbeats 2000000 in
theorem add12 (hk : -9223372036854775808 ≤ k ∧ k ≤ 9223372036854775807) (h : RdI w v xs) (hmax : xs.length * 8 + 8 ≤ 140737488355328) :
    Calls Tryd.prog 7 #[v, .int .i64 k] w fun e w' => ∃ v', e = .returned (.tuple #[v', .bool (addT xs k)]) ∧ Aside (Keeps Nowhere w w') ∧ Aside (LiN w w' v v' (addL xs k)) := by
  have FD := Aside.mk (find12 k h)
  have WO := Aside.mk (without12 (w := w) (-1) xs.length h (fun m hm => ⟨fun e => by omega, fun e => by omega⟩) (by omega))
  have H := Aside.mk h
  clear h
  go_enter Tryd.func7, Tryd.ntmps7
  go_upto_region 2 with (first | (go_at_call 22; refine FD.it.mono ?_; clear FD; rintro e w1 ⟨rfl, rfl⟩; rcases findI_cases xs k with ⟨hn, ef⟩ | ⟨j, ef, hj, _⟩ <;> rw [ef]) | fail)
  · have hn' := Aside.mk hn
    clear hn
    go_upto_region 5 with (first | (go_at_call 23; refine WO.it.mono ?_; clear WO; rintro e w2 ⟨v2, rfl, K2, O2⟩) | fail)
    rw [List.eraseIdx_of_length_le (Nat.le_refl _)] at O2
    go_wp2_with (at_builtin; refine wpList_appendR rfl (.tmp 16) (.tmp 18) 29 rfl 3 (.int .i64 0) 1 8 Tryd.underlying29 info12 rfl (by decide) w2 ((Keeps.refl _ _).alloc _) w1.heap.size _ _ _ O2.it _ 1 [.int .i64 k] (readsK_new _ _ _) (fun x hx => by rw [List.mem_singleton.1 hx]; rfl) (by omega) (by unfold maxLen; omega) K2.it.size rfl rfl ?_; intro v' w' O' K' _)
    go_ret2
    have hn := hn'.it
    refine ⟨v', by rw [show addT xs k = true from decide_eq_true hn]; rfl, ⟨?_⟩, ⟨?_⟩⟩
    · refine (K2.it.alloc _).next K'.it (fun c e hc => ?_)
      have := owns_base O2.it c e
      omega
    · unfold addL
      rw [if_neg hn]
      refine owns_LiN (B := w1.heap.size) ?_ (Nat.le_refl _) ?_
      · rw [List.length_append, ← iv_append]
        exact O'.it
      · intro z hz
        rcases List.mem_append.1 hz with hz | hz
        · exact H.it.bounds z hz
        · rw [List.mem_singleton.1 hz]; exact hk
  · have hj0 : (j : Int) ≥ 0 := by omega
    have hin := List.mem_of_getElem? hj
    go_wp2_with fail
    go_ret2
    refine ⟨v, by rw [show addT xs k = false from decide_eq_false (fun x => x hin)]; rfl, ⟨Keeps.refl _ _⟩, ⟨?_⟩⟩
    unfold addL
    rw [if_pos hin]
    exact ⟨H.it, fun b hb => .inl hb⟩
theorem bounds_sub {ys : List Int} (h : RdI w v xs) (hs : ∀ z ∈ ys, z ∈ xs) : ∀ z ∈ ys, -9223372036854775808 ≤ z ∧ z ≤ 9223372036854775807 := fun z hz => h.bounds z (hs z hz)
set_option maxHeartbeats 2000000 in
theorem remove12 (k : Int) (h : RdI w v xs) (hmax : xs.length * 8 ≤ 140737488355328) :
    Calls Tryd.prog 9 #[v, .int .i64 k] w fun e w' => ∃ v', e = .returned (.tuple #[v', .bool (inT xs k)]) ∧ Aside (Keeps Nowhere w w') ∧ Aside (LiN w w' v v' (remL xs k)) := by
  have FD := Aside.mk (find12 k h)
  have WO := Aside.mk (fun j : Nat => without12 (w := w) j j h (fun m _ => ⟨fun e => by omega, fun e => by omega⟩) hmax)
  have H := Aside.mk h
  clear h
  go_enter Tryd.func9, Tryd.ntmps9
  go_upto_region 2 with (first | (go_at_call 22; refine FD.it.mono ?_; clear FD; rintro e w1 ⟨rfl, rfl⟩; rcases findI_cases xs k with ⟨hn, ef⟩ | ⟨j, ef, hj, hej⟩ <;> rw [ef]) | fail)
  · go_wp2_with fail
    go_ret2
    refine ⟨v, by rw [show inT xs k = false from decide_eq_false hn]; rfl, ⟨Keeps.refl _ _⟩, ⟨?_⟩⟩
    unfold remL
    rw [List.erase_of_not_mem hn]
    exact ⟨H.it, fun b hb => .inl hb⟩
  · have hj0 : ¬ (j : Int) < 0 := by omega
    have hin := List.mem_of_getElem? hj
    have HE := Aside.mk hej
    clear hej hj
    go_wp2_with (first | (go_at_call 23; refine (WO.it j).mono ?_; clear WO; rintro e w2 ⟨v2, rfl, K2, O2⟩) | fail)
    go_ret2
    refine ⟨v2, by rw [show inT xs k = true from decide_eq_true hin]; rfl, K2, ⟨?_⟩⟩
    unfold remL
    rw [← HE.it]
    exact owns_LiN O2.it (Nat.le_refl _) (bounds_sub H.it (fun z hz => List.mem_of_mem_eraseIdx hz))
set_option maxHeartbeats 2000000 in
theorem next12 (h : RdI w v xs) (hmax : xs.length * 8 ≤ 140737488355328) :
    Calls Tryd.prog 11 #[v] w fun e w' => ∃ v', e = .returned (.tuple #[v', .int .i64 (frst 0 xs), .bool (some1 xs)]) ∧ Aside (Keeps Nowhere w w') ∧ Aside (LiN w w' v v' (rotL xs)) := by
  have WO := Aside.mk (without12 (w := w) 0 0 h (fun m _ => ⟨fun e => by omega, fun e => by omega⟩) hmax)
  have H := Aside.mk h
  obtain ⟨pa, ca, rfl, hca⟩ := h.shape
  clear h
  cases xs with
  | nil =>
    rw [List.length_nil]
    go_enter Tryd.func11, Tryd.ntmps11
    go_wp2_with fail
    refine bodyPost_ret (results_tmp3 rfl _ _ _) rfl ?_
    exact ⟨_, rfl, ⟨Keeps.refl _ _⟩, ⟨H.it, fun b hb => .inl hb⟩⟩
  | cons x t =>
    obtain ⟨xb, xo, rfl, hx⟩ := hca 0 x rfl
    rw [Nat.add_zero] at hx
    obtain ⟨l, hn⟩ : ∃ l, l = (x :: t).length := ⟨_, rfl⟩
    rw [← hn] at hmax ⊢
    rw [← hn] at WO H
    have l0 : 0 < l := by rw [hn, List.length_cons]; omega
    have l1 : ¬ (l : Int) = 0 := by omega
    have HN := Aside.mk hn
    clear hn hca
    go_enter Tryd.func11, Tryd.ntmps11
    go_upto_region 4 with (first | (go_at_call 23; refine WO.it.mono ?_; clear WO; rintro e w2 ⟨v2, rfl, K2, O2⟩) | fail)
    rw [List.eraseIdx_cons_zero] at O2
    have c2 : w2.cell? ⟨xb, xo, none⟩ = some (.int .i64 x) := by rw [K2.it.bel.cell (World.block_lt_of_cell? w _ hx)]; exact hx
    have HT : Aside (t.length + 1 = l) := ⟨HN.it.symm⟩
    go_upto_region 5 with (first | (at_builtin; refine wpList_appendR rfl (.tmp 12) (.tmp 16) 29 rfl 3 (.int .i64 0) 1 8 Tryd.underlying29 info12 rfl (by decide) w2 ((Keeps.refl _ _).alloc _) w.heap.size _ _ _ O2.it _ 1 [.int .i64 x] (readsK_new _ _ _) (fun x hx => by rw [List.mem_singleton.1 hx]; rfl) (by have := HT.it; omega) (by have := HT.it; unfold maxLen; omega) K2.it.size rfl rfl ?_; intro v' w' O' K' _) | fail)
    have k3 : Keeps Nowhere w w' := (K2.it.alloc _).next K'.it (fun c e hc => by have := owns_base O2.it c e; omega)
    have c3 : w'.cell? ⟨xb, xo, none⟩ = some (.int .i64 x) := by rw [k3.bel.cell (World.block_lt_of_cell? w _ hx)]; exact hx
    have K3 := Aside.mk k3
    clear k3 c2 hx
    go_quiet (fail)
    go_wp2_with fail
    refine bodyPost_ret (results_tmp3 rfl _ _ _) rfl ?_
    refine ⟨_, rfl, ⟨K3.it.drewN _⟩, ⟨?_⟩⟩
    have o := O'.it
    refine owns_LiN (B := w.heap.size) (ys := t ++ [x]) ?_ (Nat.le_refl _) (bounds_sub H.it (fun z hz => by simpa [or_comm] using hz))
    rw [List.length_append, ← iv_append]
    exact owns_later o ((Keeps.refl Nowhere w').drewN _) (fun _ _ x => x)
end Go.Proofs.YtekokdfajbajoaaDoor
