/-
  package lru (lnn): Get, Peek
-/
import Derived.Test.YthjeeianlgkaaaaDoorLuElnn
import Derived.OwnWalk
namespace Go.Proofs.YthjeeianlgkaaaaDoor.Lulnn
open Go.RowKit

variable {w w' : World} {own own' : Nat → Nat} {i c mb eb s b p q j : Nat} {l : List Nat} {f : Nat → Rx} {pf nf : Nat → Option Nat} {room k now W : Int} {L M : List Rx} {I : Nat → Prop} {A : Nat → Addr} {x : Rx} {er : Value}

theorem peek_nil (k : Int) (w : World) : Calls Tryd.prog 38 #[.pointer none, kv k] w fun e w' => e = .returned (.tuple #[(.int .i64 0), .int .i64 0, .bool false]) ∧ w' = w := by
  have hf := find_nil k w
  go_enter Tryd.func38, Tryd.ntmps38
  go_wp2_with (first | (go_at_call 39; refine hf.mono ?_; rintro e w' ⟨rfl, rfl⟩) | fail)
  go_ret3
  exact ⟨rfl, rfl⟩
theorem find_fk' (l : List Nat) (f : Nat → Rx) (k : Int) : findL (l.map f) k = (fk l (fun b => (f b).k) k).map f := find_fk k
theorem peek_none (h : CaI w c mb eb l f pf nf room) (hk : Ky k) (hm : findL (l.map f) k = none) : Calls Tryd.prog 38 #[ptr c, kv k] w fun e w' => e = .returned (.tuple #[(.int .i64 0), .int .i64 0, .bool false]) ∧ w' = w := by
  have hf := find_ h hk
  rw [find_fk', Option.map_eq_none_iff] at hm
  rw [hm] at hf
  simp only [vF] at hf
  go_enter Tryd.func38, Tryd.ntmps38
  go_wp2_with (first | (go_at_call 39; refine hf.mono ?_; rintro e w' ⟨rfl, rfl⟩) | fail)
  go_ret3
  exact ⟨rfl, rfl⟩
set_option maxHeartbeats 1000000 in
theorem peek_some (h : CaI w c mb eb l f pf nf room) (hk : Ky k) (hm : findL (l.map f) k = some x) : Calls Tryd.prog 38 #[ptr c, kv k] w fun e w' => e = .returned (.tuple #[tv x.t, .int .i64 x.u, .bool true]) ∧ Aside (Keeps Nowhere w w') := by
  have hf := find_ h hk
  rw [find_fk'] at hm
  obtain ⟨b, hb, rfl⟩ := Option.map_eq_some_iff.1 hm
  obtain ⟨bm, _⟩ := fk_some hb
  rw [hb] at hf
  simp only [vF] at hf
  have hc := h.sts b (List.mem_cons_of_mem _ bm)
  have c1 : w.cell? ⟨b, 1, none⟩ = some (tv (f b).t) := hc.cell 1
  have c2 : w.cell? ⟨b, 3, none⟩ = some (.int .i64 (f b).u) := hc.cell 3
  clear h hm hb
  go_enter Tryd.func38, Tryd.ntmps38
  go_upto_region 4 with (first | (go_at_call 39; refine hf.mono ?_; rintro e w' ⟨rfl, rfl⟩) | fail)
  go_quiet (fail)
  go_wp2_with fail
  go_ret3
  exact ⟨rfl, ⟨(Keeps.refl _ _).drewN _⟩⟩
theorem get_nil (k now : Int) (w : World) : Calls Tryd.prog 11 #[.pointer none, kv k, .int .i64 now] w fun e w' => e = .returned (.tuple #[(.int .i64 0), .bool false]) ∧ w' = w := by
  have hf := find_nil k w
  go_enter Tryd.func11, Tryd.ntmps11
  go_wp2_with (first | (go_at_call 39; refine hf.mono ?_; rintro e w' ⟨rfl, rfl⟩) | fail)
  go_ret2
  exact ⟨rfl, rfl⟩
theorem get_none (h : CaI w c mb eb l f pf nf room) (hk : Ky k) (now : Int) (hm : findL (l.map f) k = none) : Calls Tryd.prog 11 #[ptr c, kv k, .int .i64 now] w fun e w' => e = .returned (.tuple #[(.int .i64 0), .bool false]) ∧ w' = w := by
  have hf := find_ h hk
  rw [find_fk', Option.map_eq_none_iff] at hm
  rw [hm] at hf
  simp only [vF] at hf
  go_enter Tryd.func11, Tryd.ntmps11
  go_wp2_with (first | (go_at_call 39; refine hf.mono ?_; rintro e w' ⟨rfl, rfl⟩) | fail)
  go_ret2
  exact ⟨rfl, rfl⟩
set_option maxHeartbeats 1000000 in
theorem get_old (h : CaI w c mb eb l f pf nf room) (hk : Ky k) (now : Int) (hm : findL (l.map f) k = some x) (hu : x.u ≤ now) : Calls Tryd.prog 11 #[ptr c, kv k, .int .i64 now] w fun e w' => e = .returned (.tuple #[(.int .i64 0), .bool false]) ∧ ∃ l2 pf' nf', Aside (CaI w' c mb eb l2 f pf' nf' room ∧ l2.map f = dropL (l.map f) k ∧ (∀ b ∈ l2, b ∈ l)) ∧ Aside (Keeps (Mine c mb eb l) w w') := by
  have hf := find_ h hk
  rw [find_fk'] at hm
  obtain ⟨b, hb, rfl⟩ := Option.map_eq_some_iff.1 hm
  obtain ⟨bm, ek⟩ := fk_some hb
  rw [hb] at hf
  simp only [vF] at hf
  obtain ⟨j, hj⟩ := List.mem_iff_getElem?.1 bm
  have TO := tooOld_ (h.sts b (List.mem_cons_of_mem _ bm)) now
  rw [show (!decide (now < (f b).u)) = true by simp; omega] at TO
  have LG := Aside.mk (letGo_ h hj)
  have E1 := Aside.mk (map_eraseD h.inj hj (List.nodup_cons.1 h.nodup).2)
  clear h hm hb
  go_enter Tryd.func11, Tryd.ntmps11
  go_wp2_with (first | (go_at_call 39; refine hf.mono ?_; rintro e w' ⟨rfl, rfl⟩) | (go_at_call 40; refine TO.mono ?_; rintro e w' ⟨rfl, rfl⟩) | (go_at_call 41; refine LG.it.mono ?_; clear LG; rintro e w3 ⟨rfl, pf', nf', J1, J2⟩) | fail)
  go_ret2
  exact ⟨rfl, _, pf', nf', ⟨J1.it.1, by rw [E1.it, ek], fun b hb => List.mem_of_mem_eraseIdx hb⟩, ⟨J2.it⟩⟩
set_option maxHeartbeats 2000000 in
theorem get_good (h : CaI w c mb eb l f pf nf room) (hk : Ky k) (now : Int) (hm : findL (l.map f) k = some x) (hu : now < x.u) : Calls Tryd.prog 11 #[ptr c, kv k, .int .i64 now] w fun e w' => e = .returned (.tuple #[tv x.t, .bool true]) ∧ ∃ l2 pf' nf', Aside (CaI w' c mb eb l2 f pf' nf' room ∧ l2.map f = x :: dropL (l.map f) k ∧ (∀ b ∈ l2, b ∈ l)) ∧ Aside (Keeps (Mine c mb eb l) w w') := by
  have hf := find_ h hk
  have HF := Aside.mk (h.ok.first hm)
  rw [find_fk'] at hm
  obtain ⟨b, hb, rfl⟩ := Option.map_eq_some_iff.1 hm
  obtain ⟨bm, ek⟩ := fk_some hb
  rw [hb] at hf
  simp only [vF] at hf
  obtain ⟨j, hj⟩ := List.mem_iff_getElem?.1 bm
  have hn := List.nodup_cons.1 h.nodup
  have TO := tooOld_ (h.sts b (List.mem_cons_of_mem _ bm)) now
  rw [show (!decide (now < (f b).u)) = false by simp; omega] at TO
  have LV := Aside.mk (leave_ h.sts h.nodup h.ring hj)
  have E1 := Aside.mk (map_eraseD h.inj hj hn.2)
  have H := Aside.mk h
  have HJ := Aside.mk hj
  clear h hm hb hj
  go_enter Tryd.func11, Tryd.ntmps11
  go_upto_region 9 with (first | (go_at_call 39; refine hf.mono ?_; rintro e w' ⟨rfl, rfl⟩) | (go_at_call 40; refine TO.mono ?_; rintro e w' ⟨rfl, rfl⟩) | (go_at_call 42; refine LV.it.mono ?_; clear LV; rintro e w3 ⟨rfl, pf', nf', J1, J2⟩) | fail)
  have hbe : b ≠ eb := fun e => hn.1 (e ▸ bm)
  have hs : b ∉ eb :: l.eraseIdx j := by
    intro e
    rcases List.mem_cons.1 e with e | e
    · exact hbe e
    · obtain ⟨i, hi⟩ := List.mem_iff_getElem?.1 e
      rw [erase_get] at hi
      have := nodup_idx hn.2 hi HJ.it
      split at this <;> omega
  have hn2 : (eb :: l.eraseIdx j).Nodup := List.nodup_cons.2 ⟨fun e => hn.1 (List.mem_of_mem_eraseIdx e), hn.2.eraseIdx j⟩
  have LD := Aside.mk (lead_ (x := f b) (H.it.box.later J2.it (fun e => H.it.box_ne c e rfl)) J1.it.1 hn2 J1.it.2.1 hs J1.it.2.2)
  go_upto_region 10 with (first | (go_at_call 43; refine LD.it.mono ?_; clear LD; rintro e w7 ⟨rfl, pf7, nf7, J7, K7⟩) | fail)
  have S7 := J7.it.1
  rw [upd_self] at S7
  have c1 : w7.cell? ⟨b, 1, none⟩ = some (tv (f b).t) := (S7 b (List.mem_cons_of_mem _ List.mem_cons_self)).cell 1
  go_wp2_with fail
  go_ret2
  have hsub : ∀ y ∈ eb :: b :: l.eraseIdx j, y ∈ eb :: l := by
    intro y hy
    rcases List.mem_cons.1 hy with e | e
    · rw [e]; exact List.mem_cons_self
    · rcases List.mem_cons.1 e with e | e
      · rw [e]; exact List.mem_cons_of_mem _ bm
      · exact List.mem_cons_of_mem _ (List.mem_of_mem_eraseIdx e)
  have em : (b :: l.eraseIdx j).map f = f b :: dropL (l.map f) k := by rw [List.map_cons, E1.it, ek]
  have k37 : Keeps (fun x => x ∈ eb :: l) w' w7 := J2.it.next K7.it (fun x e _ => hsub x e)
  refine ⟨rfl, b :: l.eraseIdx j, pf7, nf7, ⟨⟨?_, ?_, S7, ?_, J7.it.2, ?_⟩, em, fun y hy => ?_⟩, ⟨k37.mono (fun x e _ => .inr (.inr e))⟩⟩
  · rw [em, sumL_cons, ← ek, ← E1.it, sum_erase H.it HJ.it]
    have := H.it.box.later k37 (fun e => H.it.box_ne c e rfl)
    rw [show (f b).w + (sumL (l.map f) - (f b).w) = sumL (l.map f) by omega]
    exact this
  · rw [List.length_cons, List.length_eraseIdx_of_lt (lt_of_some HJ.it), fk_front H.it.inj hn.2 HJ.it]
    rw [show l.length - 1 + 1 = l.length by have := lt_of_some HJ.it; omega]
    exact H.it.map.later k37 (fun e => H.it.map_ne mb e rfl)
  · exact List.nodup_cons.2 ⟨fun e => by
      rcases List.mem_cons.1 e with e | e
      · exact hbe e.symm
      · exact hn.1 (List.mem_of_mem_eraseIdx e), List.nodup_cons.2 ⟨fun e => hs (List.mem_cons_of_mem _ e), hn.2.eraseIdx j⟩⟩
  · rw [em]; exact ek ▸ HF.it
  · rcases List.mem_cons.1 hy with e | e
    · rw [e]; exact bm
    · exact List.mem_of_mem_eraseIdx e
end Go.Proofs.YthjeeianlgkaaaaDoor.Lulnn
