/-
  package lru (lnn): Put
-/
import Derived.Test.YthjeeianlgkaaaaDoorLuDlnn
namespace Go.Proofs.YthjeeianlgkaaaaDoor.Lulnn
open Go.RowKit

variable {w w' : World} {own own' : Nat → Nat} {i c mb eb s b p q j : Nat} {l : List Nat} {f : Nat → Rx} {pf nf : Nat → Option Nat} {room k now W : Int} {L M : List Rx} {I : Nat → Prop} {A : Nat → Addr} {x : Rx} {er : Value}

theorem CaI.mine (h : CaI w c mb eb l f pf nf room) : ∀ x, Mine c mb eb l x → x < w.heap.size := by
  rintro x (e | e | e)
  · rw [e]; exact h.box.lt
  · rw [e]; exact h.map.lt
  · exact (h.sts x e).lt
theorem put_err {a er : Value} (tvv : Value) (U : Int) (hf : Calls Tryd.prog 45 #[a, kv k, .int .i64 W] w fun e w' => e = .returned er ∧ w' = w) (ne : ∃ t p, er = .iface t p) : Calls Tryd.prog 21 #[a, kv k, tvv, .int .i64 W, .int .i64 U] w fun e w' => e = .returned (.tuple #[.slice none 0 0, er]) ∧ w' = w := by
  obtain ⟨t, p, rfl⟩ := ne
  go_enter Tryd.func21, Tryd.ntmps21
  go_wp2_with (first | (go_at_call 45; refine hf.mono ?_; rintro e w' ⟨rfl, rfl⟩) | fail)
  go_ret2
  exact ⟨rfl, rfl⟩
theorem owns_base_le {base base' n k : Nat} {e : TypeId} {v : Value} {xs : List Value} (h : w.ownsRow base e k v n xs) (hb : base' ≤ base) : w.ownsRow base' e k v n xs := by
  refine ⟨h.1, ?_⟩
  rcases h.2 with ⟨h, h0⟩ | ⟨q, cap, cur, h, h0, h1⟩
  · exact .inl ⟨h, h0⟩
  · exact .inr ⟨q, cap, cur, h, by omega, h1⟩
theorem lt_max {n : Nat} (h : n * 8 ≤ 140737488355328) : n < maxLen := by
  have h8 : 1 ≤ 8 := by decide
  have : n ≤ 140737488355328 := Nat.le_trans (Nat.le_mul_of_pos_right _ h8) h
  exact Nat.lt_of_le_of_lt this (by decide)
theorem map_front (hs : s ∉ l) : (s :: l).map (upd f s x) = x :: l.map f := by
  rw [List.map_cons, upd_same]
  congr 1
  exact List.map_congr_left fun y hy => upd_other _ _ (fun e => hs (e ▸ hy))
set_option maxHeartbeats 4000000 in
set_option maxRecDepth 20000 in
theorem put_ok (h : CaI w c mb eb l f pf nf room) (hx : x.Ok) (hr : x.w ≤ room) (hmax : l.length * 8 ≤ 140737488355328) :
    Calls Tryd.prog 21 #[ptr c, kv x.k, tv x.t, .int .i64 x.w, .int .i64 x.u] w fun e w' => ∃ v s l2 pf' nf', e = .returned (.tuple #[v, .nilIface]) ∧ Aside (CaI w' c mb eb (s :: l2) (upd f s x) pf' nf' room ∧ (s :: l2).map (upd f s x) = putL room (l.map f) x ∧ w.heap.size ≤ s ∧ (∀ b ∈ l2, b ∈ l)) ∧ Aside (w'.ownsRow w.heap.size 3 1 v ((dropL (l.map f) x.k).length - fit (room - x.w) (dropL (l.map f) x.k)) (rk ((dropL (l.map f) x.k).drop (fit (room - x.w) (dropL (l.map f) x.k))).reverse)) ∧ Aside (Keeps (Mine c mb eb l) w w') := by
  have hk : Ky x.k := hx.k
  have RF := Aside.mk (refuses_ok h hk hx.w.1 hr)
  have DR := Aside.mk (dropI h hk)
  have HM := Aside.mk h.mine
  have HO := Aside.mk (h.ok.put hx hr)
  have HL := Aside.mk h.ok
  have hw := hx.w
  have hr1 := h.ok.r1
  clear h hk
  obtain ⟨k, t, W, U⟩ := x
  simp only at hr hw RF DR HO ⊢
  go_enter Tryd.func21, Tryd.ntmps21
  go_upto_region 6 with (first
    | (go_at_call 45; refine RF.it.mono ?_; clear RF; rintro e w' ⟨rfl, rfl⟩)
    | (go_at_call 13; refine DR.it.mono ?_; clear DR; rintro e w1 ⟨rfl, l1, pf1, nf1, J1, K1⟩
       have hl1 : l1.length ≤ l.length := (by have := congrArg List.length J1.it.2.1; rw [List.length_map] at this; have h2 := dropL_len (L := l.map f) (k := k); rw [List.length_map] at h2; omega)
       have MR := Aside.mk (makeRoom_ J1.it.1 hw.1 hr (Nat.le_trans (Nat.mul_le_mul_right _ hl1) hmax)))
    | (go_at_call 46; refine MR.it.mono ?_; clear MR; rintro e w3 ⟨v, pf3, nf3, rfl, C3, O3, K3⟩
       obtain ⟨q1, q2, q3, hv⟩ := owns_shapeK O3.it
       subst hv)
    | fail)
  have hs0 : w1.heap.size ≤ w3.heap.size := K3.it.size
  have hsz : w'.heap.size ≤ w3.heap.size := Nat.le_trans K1.it.size hs0
  have HN : Aside (w3.heap.size ∉ eb :: l1.take (fit (room - W) (l1.map f))) := ⟨fun e => Nat.lt_irrefl _ (C3.it.sts _ e).lt⟩
  have NK : Aside (fk (l1.take (fit (room - W) (l1.map f))) (fun b => (f b).k) k = none) := ⟨by
    refine fk_out fun hm => ?_
    obtain ⟨b, hb, e⟩ := List.mem_map.1 hm
    have h1 : k ∈ keyL (l1.map f) := by rw [keyL_map]; exact List.mem_map.2 ⟨b, List.mem_of_mem_take hb, e⟩
    rw [J1.it.2.1] at h1
    exact dropL_out HL.it.one h1⟩
  have KM : Keeps (fun x => x = w3.heap.size) w3 (w3.alloc (.cells (tc ⟨k, t, W, U⟩ (.pointer none) (.pointer none)).toArray 79)) := (Keeps.refl _ _).alloc _
  obtain ⟨w5, hst, M5, K5⟩ := (C3.it.map.later KM (fun e => by have := C3.it.map.lt; omega)).store (by rw [List.length_take]; exact lt_max (Nat.le_trans (Nat.mul_le_mul_right _ (Nat.le_trans (Nat.min_le_right _ _) hl1)) hmax)) (show Ky k from hx.k) NK.it w3.heap.size
  have B4 : Cells (w3.alloc (.cells (tc ⟨k, t, W, U⟩ (.pointer none) (.pointer none)).toArray 79)) w3.heap.size 79 (tc ⟨k, t, W, U⟩ (.pointer none) (.pointer none)) := Cells.new w3 _ _
  have c2 : (w3.alloc (.cells (tc ⟨k, t, W, U⟩ (.pointer none) (.pointer none)).toArray 79)).cell? ⟨c, 2, none⟩ = some (.map (some mb)) := (C3.it.box.later KM (fun e => by have := C3.it.box.lt; omega)).cell 2
  have D5 := Aside.mk ((C3.it.box.later KM (fun e => by have := C3.it.box.lt; omega)).later K5 (fun e => C3.it.map_box e.symm))
  have d1 : w5.cell? ⟨c, 1, none⟩ = some (.int .i64 (sumL ((l1.take (fit (room - W) (l1.map f))).map f))) := D5.it.cell 1
  have f1 := D5.it.frozen 1
  have esum : sumL ((l1.take (fit (room - W) (l1.map f))).map f) ≤ room - W := by rw [List.map_take]; exact fit_sum (by omega)
  have esum0 : 0 ≤ sumL ((l1.take (fit (room - W) (l1.map f))).map f) := sumL_nonneg C3.it.ok.w0
  have g1 : -9223372036854775808 ≤ sumL ((l1.take (fit (room - W) (l1.map f))).map f) + W := by omega
  have g2 : sumL ((l1.take (fit (room - W) (l1.map f))).map f) + W ≤ 9223372036854775807 := by omega
  have D6 := Aside.mk (D5.it.setCell 1 (.int .i64 (sumL ((l1.take (fit (room - W) (l1.map f))).map f) + W)))
  have kW : Keeps (fun x => x = c) w5 (w5.setCell ⟨c, 1, none⟩ (.int .i64 (sumL ((l1.take (fit (room - W) (l1.map f))).map f) + W))) := (Keeps.refl _ _).setCell _ _ (fun _ => rfl)
  have SS := C3.it.sts
  have nb := C3.it.map_ne
  have nc := C3.it.box_ne
  have LD := Aside.mk (lead_ (s := w3.heap.size) (x := ⟨k, t, W, U⟩) D6.it ((((SS.later KM (fun b hb e => by have := (SS b hb).lt; omega)).later K5 (fun b hb e => nb b hb e.symm)).later kW (fun b hb e => nc b hb e.symm))) C3.it.nodup C3.it.ring HN.it ((B4.later K5 (fun e => by have := C3.it.map.lt; omega)).later kW (fun e => by have := C3.it.box.lt; omega)))
  have M6 := Aside.mk (M5.later kW (fun e => C3.it.map_box e))
  have K6 : Aside (Keeps (Mine c mb eb l1) w1 (w5.setCell ⟨c, 1, none⟩ (.int .i64 (sumL ((l1.take (fit (room - W) (l1.map f))).map f) + W)))) := ⟨((K3.it.next KM (fun x e hlt => by omega)).next K5 (fun x e _ => .inr (.inl e))).next kW (fun x e _ => .inl e)⟩
  have K36 : Aside (Keeps (fun x => x = c ∨ x = mb) w3 (w5.setCell ⟨c, 1, none⟩ (.int .i64 (sumL ((l1.take (fit (room - W) (l1.map f))).map f) + W)))) := ⟨((KM.mono (fun x e hlt => by omega)).trans (K5.mono (fun x e _ => .inr e))).trans (kW.mono (fun x e _ => .inl e))⟩
  have ES := Aside.mk (And.intro esum esum0)
  have HS2 : ∃ S2, Aside (sumL ((l1.take (fit (room - W) (l1.map f))).map f) = S2) := ⟨_, ⟨rfl⟩⟩
  obtain ⟨S2, HS2⟩ := HS2
  rw [HS2.it] at d1 g1 g2 D6 LD M6 K6 K36 ES
  go_upto_region 7 with fail
  clear esum esum0 D5 KM kW SS nb nc
  go_upto_region 9 with fail
  go_wp2_with (first | (go_at_call 43; refine LD.it.mono ?_; clear LD; rintro e w7 ⟨rfl, pf7, nf7, J7, K7⟩) | fail)
  go_ret2
  have e1 := J1.it.2.1
  have hL1 : l1.length = (dropL (l.map f) k).length := by rw [← e1, List.length_map]
  have em := map_front (x := ⟨k, t, W, U⟩) (f := f) (fun e => HN.it (List.mem_cons_of_mem _ e))
  have ep : (w3.heap.size :: l1.take (fit (room - W) (l1.map f))).map (upd f w3.heap.size ⟨k, t, W, U⟩) = putL room (l.map f) ⟨k, t, W, U⟩ := by
    rw [em, List.map_take, e1]
    rfl
  have k37 : Keeps (Mine c mb eb l1) w3 w7 := (K36.it.mono (fun x e _ => by rcases e with e | e; exact .inl e; exact .inr (.inl e))).next K7.it (fun x e hlt => by
    rcases List.mem_cons.1 e with e | e
    · exact .inr (.inr (by rw [e]; exact List.mem_cons_self))
    · rcases List.mem_cons.1 e with e | e
      · omega
      · exact .inr (.inr (List.mem_cons_of_mem _ (List.mem_of_mem_take e))))
  have hms : ∀ x, Mine c mb eb l1 x → Mine c mb eb l x := by
    rintro x (e | e | e)
    · exact .inl e
    · exact .inr (.inl e)
    · rcases List.mem_cons.1 e with e | e
      · exact .inr (.inr (by rw [e]; exact List.mem_cons_self))
      · exact .inr (.inr (List.mem_cons_of_mem _ (J1.it.2.2 x e)))
  have hn7 : ∀ y ∈ [c, mb], ¬ y ∈ eb :: w3.heap.size :: l1.take (fit (room - W) (l1.map f)) := by
    intro y hy e
    have hlt : y < w3.heap.size := by
      rcases List.mem_cons.1 hy with h | h
      · rw [h]; exact C3.it.box.lt
      · rw [List.mem_singleton.1 h]; exact C3.it.map.lt
    have hne : ∀ b ∈ eb :: l1.take (fit (room - W) (l1.map f)), y ≠ b := by
      rcases List.mem_cons.1 hy with h | h
      · rw [h]; exact C3.it.box_ne
      · rw [List.mem_singleton.1 h]; exact C3.it.map_ne
    rcases List.mem_cons.1 e with e | e
    · exact hne eb List.mem_cons_self e
    · rcases List.mem_cons.1 e with e | e
      · omega
      · exact hne y (List.mem_cons_of_mem _ e) rfl
  refine ⟨_, w3.heap.size, l1.take (fit (room - W) (l1.map f)), pf7, nf7, rfl, ⟨⟨?_, ?_, J7.it.1, ?_, J7.it.2, ?_⟩, ep, hsz, fun b hb => J1.it.2.2 b (List.mem_of_mem_take hb)⟩, ⟨?_⟩, ⟨?_⟩⟩
  · rw [em, sumL_cons, HS2.it, Int.add_comm]
    exact D6.it.later K7.it (hn7 c (by simp))
  · rw [fk_cons (fun e => HN.it (List.mem_cons_of_mem _ e)), List.length_cons]
    exact M6.it.later K7.it (hn7 mb (by simp))
  · refine List.nodup_cons.2 ⟨fun e => ?_, List.nodup_cons.2 ⟨fun e => HN.it (List.mem_cons_of_mem _ e), (List.nodup_cons.1 C3.it.nodup).2⟩⟩
    rcases List.mem_cons.1 e with e | e
    · exact HN.it (by rw [← e]; exact List.mem_cons_self)
    · exact (List.nodup_cons.1 C3.it.nodup).1 e
  · rw [ep]; exact HO.it
  · have r := O3.it
    rw [hL1, e1] at r
    refine owns_later ?_ k37 (fun b hb e => ?_)
    · exact owns_base_le r K1.it.size
    · have h2 := owns_base r b hb
      have : b < w1.heap.size := by
        rcases hms b e with e' | e' | e'
        · exact Nat.lt_of_lt_of_le (HM.it b (.inl e')) K1.it.size
        · exact Nat.lt_of_lt_of_le (HM.it b (.inr (.inl e'))) K1.it.size
        · exact Nat.lt_of_lt_of_le (HM.it b (.inr (.inr e'))) K1.it.size
      omega
  · exact K1.it.trans ((K3.it.trans k37).mono (fun x e _ => hms x e))
end Go.Proofs.YthjeeianlgkaaaaDoor.Lulnn
