/-
  package lru (lnn): makeRoom
-/
import Derived.Test.YthjeeianlgkaaaaDoorLuClnn
namespace Go.Proofs.YthjeeianlgkaaaaDoor.Lulnn
open Go.RowKit

variable {w w' : World} {own own' : Nat → Nat} {i c mb eb s b p q j : Nat} {l : List Nat} {f : Nat → Rx} {pf nf : Nat → Option Nat} {room k now W : Int} {L M : List Rx} {I : Nat → Prop} {A : Nat → Addr} {x : Rx} {er : Value}

theorem rk_append : rk (L ++ M) = rk L ++ rk M := by unfold rk; rw [List.flatMap_append]
theorem rk_one : rk [x] = kcs x.k := by unfold rk; simp
theorem rk_len : (rk L).length = L.length * 1 := by
  induction L with
  | nil => rfl
  | cons a L ih => rw [← List.singleton_append, rk_append, List.length_append, ih, rk_one, List.length_append]; simp [kcs]
theorem rk_cells : ∀ v ∈ kcs k, v.oneCell' = true := by
  intro v hv
  simp only [kcs, List.mem_cons, List.not_mem_nil, or_false] at hv
  first
    | (rw [hv]; rfl)
    | (rcases hv with hv | hv <;> (rw [hv]; rfl))
theorem infoK : (Tryd.prog.info? 3).map (fun i => (i.zero, i.size, i.bytes)) = some (some (.int .i64 0), 1, 8) := by kernel_rfl
theorem CaI.last (h : CaI w c mb eb l f pf nf room) {m : Nat} (hm : l.length = m + 1) (hb : l[m]? = some b) : Cells w eb 79 (tc (f eb) (ptr b) (vF (nf eb))) := by
  have he := h.sts eb List.mem_cons_self
  have hp := (h.ring 0 eb rfl).2
  have e : (eb :: l)[pv (eb :: l).length 0]? = some b := by
    unfold pv
    rw [if_pos rfl, List.length_cons, hm]
    exact hb
  rw [e] at hp
  rw [hp] at he
  exact he
set_option maxHeartbeats 4000000 in
set_option maxRecDepth 20000 in
theorem makeRoom_ (h : CaI w c mb eb l f pf nf room) (hW : 0 ≤ W) (hr : W ≤ room) (hmax : l.length * 8 ≤ 140737488355328) :
    Calls Tryd.prog 46 #[ptr c, .int .i64 W] w fun e w' => ∃ v pf' nf', e = .returned v ∧ Aside (CaI w' c mb eb (l.take (fit (room - W) (l.map f))) f pf' nf' room) ∧ Aside (w'.ownsRow w.heap.size 3 1 v (l.length - fit (room - W) (l.map f)) (rk ((l.map f).drop (fit (room - W) (l.map f))).reverse)) ∧ Aside (Keeps (Mine c mb eb l) w w') := by
  have r1 := h.ok.r1
  have hmn : ∀ x, Mine c mb eb l x → x < w.heap.size := by
    rintro x (e | e | e)
    · rw [e]; exact h.box.lt
    · rw [e]; exact h.map.lt
    · exact (h.sts x e).lt
  have w0 := h.ok.w0
  have H := Aside.mk h
  have HM := Aside.mk hmn
  have HW0 := Aside.mk w0
  have hl0 : sumL ((l.map f).take 0) = 0 := rfl
  clear h hmn w0
  go_enter Tryd.func46, Tryd.ntmps46
  go_wp2_with fail
  go_loopw [5] (fun gv wr => ∃ (m : Nat) (pf' nf' : Nat → Option Nat) (ga : Option Addr) (gn gc : Nat), gv = .slice ga gn gc ∧ gn = l.length - m ∧ m ≤ l.length ∧ Aside (fitN (room - W) (l.map f) m = fit (room - W) (l.map f)) ∧ Aside (CaI wr c mb eb (l.take m) f pf' nf' room) ∧ Aside (wr.ownsRow w.heap.size 3 1 (.slice ga gn gc) gn (rk ((l.map f).drop m).reverse)) ∧ Aside (Keeps (Mine c mb eb l) w wr)) (fun gv _ => match gv with | .slice _ n _ => l.length - n | _ => 0)
  case atStart =>
    refine ⟨l.length, pf, nf, none, 0, 0, rfl, (Nat.sub_self _).symm, Nat.le_refl _, ⟨by unfold fit; rw [List.length_map]⟩, ⟨by rw [List.take_length]; exact H.it⟩, ⟨?_⟩, ⟨Keeps.refl _ _⟩⟩
    rw [List.drop_of_length_le (by simp)]
    exact World.ownsRow_nil _ _ _ _
  case round =>
    obtain ⟨m, pf', nf', ga, gn, gc, rfl, hgn, hm, F, C, O, K⟩ := hrel
    have hlen : (l.take m).length = m := by rw [List.length_take]; omega
    have c0 : wr.cell? ⟨c, 0, none⟩ = some (.int .i64 room) := C.it.box.cell 0
    have c1 : wr.cell? ⟨c, 1, none⟩ = some (.int .i64 (sumL ((l.take m).map f))) := C.it.box.cell 1
    have c3 : wr.cell? ⟨c, 3, none⟩ = some (ptr eb) := C.it.box.cell 3
    have esum : (l.take m).map f = (l.map f).take m := List.map_take
    have lim1 : -9223372036854775808 ≤ room - W := by omega
    have lim2 : room - W ≤ 9223372036854775807 := by omega
    by_cases hs : sumL ((l.take m).map f) ≤ room - W
    · have hs' : ¬ room - W < sumL ((l.take m).map f) := by omega
      have E : Aside (fit (room - W) (l.map f) = m) := ⟨by rw [← F.it]; exact fitN_stop (by rw [← esum]; exact hs)⟩
      generalize sumL ((l.take m).map f) = S at c1 hs hs'
      clear esum c3 H HM HW0 hl0
      go_wp2_with fail
      go_quiet (fail)
      go_wp2_with fail
      go_ret
      refine ⟨_, pf', nf', rfl, ⟨?_⟩, ⟨?_⟩, ⟨?_⟩⟩
      · rw [E.it]; exact C.it.quiet ((Keeps.refl _ _).drewN _)
      · rw [E.it, ← hgn]; exact owns_later O.it ((Keeps.refl Nowhere _).drewN _) (fun _ _ x => x)
      · exact K.it.drewN _
    · have hs' : room - W < sumL ((l.take m).map f) := by omega
      have hm0 : m ≠ 0 := by
        rintro rfl
        rw [esum, hl0] at hs
        omega
      obtain ⟨m, rfl⟩ : ∃ m', m = m' + 1 := ⟨m - 1, by omega⟩
      have hlt : m < l.length := by omega
      obtain ⟨b, hb⟩ : ∃ b, l[m]? = some b := ⟨_, List.getElem?_eq_getElem hlt⟩
      have hb' : (l.take (m + 1))[m]? = some b := by rw [List.getElem?_take_of_lt (by omega)]; exact hb
      have E : Aside (fitN (room - W) (l.map f) m = fit (room - W) (l.map f)) := ⟨by rw [← F.it]; exact (fitN_on (by rw [← esum]; exact hs)).symm⟩
      have CL := C.it.last hlen hb'
      have e1 : wr.cell? ⟨eb, 4, none⟩ = some (ptr b) := CL.cell 4
      have HB := Aside.mk hb
      have GN := Aside.mk hgn
      generalize sumL ((l.take (m + 1)).map f) = S at c1 hs hs'
      clear esum H HW0 hl0 hb hgn CL F hm0 hs
      have LG : Aside (∀ W', Keeps Nowhere wr W' → Calls Tryd.prog 41 #[ptr c, ptr b] W' fun e w' => e = .returned (.tuple #[]) ∧ ∃ pf' nf', Aside (CaI w' c mb eb (l.take m) f pf' nf' room ∧ ∃ a1 a2, Cells w' b 79 (tc (f b) a1 a2)) ∧ Aside (Keeps (Mine c mb eb l) W' w')) := ⟨fun W' hk => by
        refine (letGo_ (C.it.quiet hk) hb').mono ?_
        rintro e w' ⟨rfl, pf', nf', J1, J2⟩
        have := J1.it.1
        rw [take_eraseIdx l m hlt] at this
        refine ⟨rfl, pf', nf', ⟨this, _, _, J1.it.2⟩, ⟨J2.it.mono ?_⟩⟩
        rintro x (e | e | e) _
        · exact .inl e
        · exact .inr (.inl e)
        · rcases List.mem_cons.1 e with e | e
          · exact .inr (.inr (by rw [e]; exact List.mem_cons_self))
          · exact .inr (.inr (List.mem_cons_of_mem _ (List.mem_of_mem_take e)))⟩
      clear hb'
      go_wp2_with fail
      go_quiet (fail)
      have K1 := Aside.mk ((Keeps.refl Nowhere wr).drewN nq)
      have b1 : (gn + 1) * 8 ≤ 140737488355328 := by have := GN.it; omega
      have b2 : gn + 1 ≤ maxLen := Nat.le_trans (show gn + 1 ≤ 140737488355328 by omega) (by decide)
      go_wp2_with (first
        | (go_at_call 41; refine (LG.it _ K1.it).mono ?_; clear LG; rintro e w3 ⟨rfl, pf2, nf2, J1, J2⟩
           obtain ⟨C3, a1, a2, B3⟩ := J1.it
           have O3 := Aside.mk (owns_later (owns_later O.it K1.it (fun _ _ x => x)) J2.it (fun b hb e => by have := HM.it _ e; have := owns_base O.it b hb; omega))
           have z0 := B3.cell 0
           have z1 := B3.cell 1
           simp only [List.getElem?_cons_zero, List.getElem?_cons_succ] at z0 z1)
        | (at_builtin; refine wpList_appendR rfl _ _ 44 rfl 3 (.int .i64 0) 1 8 Tryd.underlying44 infoK rfl (by decide) w3 ((Keeps.refl _ _).alloc _) w.heap.size _ gn _ O3.it _ 1 (kcs (f b).k) (readsK_new w3 3 (kcs (f b).k)) rk_cells b1 b2 (Nat.le_trans K.it.size (Nat.le_trans K1.it.size J2.it.size)) rfl rfl ?_
           intro v' w' o5 k5 b5)
        | fail)
      obtain ⟨p1, p2, p3, hv'⟩ := owns_shapeK o5.it
      obtain rfl : p2 = gn + 1 := by
        rcases o5.it.2 with ⟨e, h0⟩ | ⟨g, cap, cur, e, _⟩
        · exact absurd h0 (by omega)
        · rw [hv'] at e; injection e
      subst hv'
      have hd : (l.map f).drop m = f b :: (l.map f).drop (m + 1) := by
        have h1 : (l.map f)[m]? = some (f b) := by rw [List.getElem?_map, HB.it]; rfl
        have h2 := List.getElem?_eq_some_iff.1 h1
        rw [List.drop_eq_getElem_cons h2.1, h2.2]
      have hgn := GN.it
      have kA : Keeps (fun x => w.heap.size ≤ x) w3 w' := (((Keeps.refl _ _).alloc _).trans (k5.it.mono (fun x e _ => owns_base O3.it x e)))
      refine ⟨⟨m, pf2, nf2, p1, gn + 1, p3, rfl, by omega, by omega, E, ⟨?_⟩, ⟨?_⟩, ⟨?_⟩⟩, ?_⟩
      · exact C3.later kA (fun e => by have := HM.it c (.inl rfl); omega) (fun e => by have := HM.it mb (.inr (.inl rfl)); omega) (fun x hx e => by
          have h2 : Mine c mb eb l x := by
            rcases List.mem_cons.1 hx with e | e
            · exact .inr (.inr (by rw [e]; exact List.mem_cons_self))
            · exact .inr (.inr (List.mem_cons_of_mem _ (List.mem_of_mem_take e)))
          have := HM.it x h2
          omega)
      · rw [hd, List.reverse_cons, rk_append, rk_one]
        exact o5.it
      · exact ((K.it.trans K1.it.any).trans J2.it).next kA (fun x e hlt => by omega)
      · show l.length - (gn + 1) < l.length - gn
        omega
end Go.Proofs.YthjeeianlgkaaaaDoor.Lulnn
