/-
  package lru (lnn): leave, lead, letGo, Drop
-/
import Derived.Test.YthjeeianlgkaaaaDoorLuAlnn
import Derived.LaidEqlPtr
namespace Go.Proofs.YthjeeianlgkaaaaDoor.Lulnn
open Go.RowKit Go

variable {w w' : World} {own own' : Nat → Nat} {i c mb eb s b p q j : Nat} {l : List Nat} {f : Nat → Rx} {pf nf : Nat → Option Nat} {room k now : Int} {L : List Rx} {I : Nat → Prop} {A : Nat → Addr} {x : Rx} {o : Option Nat} {a1 a2 u0 u1 mv : Value}

theorem Sts.setN (h : Sts w l f pf nf) : Sts (w.setCell ⟨b, 5, none⟩ (vF o)) l f pf (upd nf b o) := by
  intro c hc
  by_cases e : c = b
  · subst e
    rw [upd_same]
    exact (h c hc).setCell 5 (vF o)
  · rw [upd_other _ _ e]
    exact (h c hc).setOther _ _ e
theorem Sts.setP (h : Sts w l f pf nf) : Sts (w.setCell ⟨b, 4, none⟩ (vF o)) l f (upd pf b o) nf := by
  intro c hc
  by_cases e : c = b
  · subst e
    rw [upd_same]
    exact (h c hc).setCell 4 (vF o)
  · rw [upd_other _ _ e]
    exact (h c hc).setOther _ _ e
theorem Sts.sub {l' : List Nat} (h : Sts w l f pf nf) (hs : ∀ b ∈ l', b ∈ l) : Sts w l' f pf nf := fun b hb => h b (hs b hb)
theorem Sts.later {S : Nat → Prop} (h : Sts w l f pf nf) (hk : Keeps S w w') (h3 : ∀ b ∈ l, ¬ S b) : Sts w' l f pf nf := fun b hb => (h b hb).later hk (h3 b hb)
theorem nx_ne {n j : Nat} (h2 : 2 ≤ n) : nx n j ≠ j ∧ pv n j ≠ j := by
  unfold nx pv
  constructor
  · split <;> omega
  · split <;> omega
theorem sub_erase : ∀ x ∈ eb :: l.eraseIdx j, x ∈ eb :: l := by
  intro x hx
  rcases List.mem_cons.1 hx with e | e
  · rw [e]; exact List.mem_cons_self
  · exact List.mem_cons_of_mem _ (List.mem_of_mem_eraseIdx e)
set_option maxHeartbeats 1000000 in
set_option maxRecDepth 4000 in
theorem leave_ (hst : Sts w (eb :: l) f pf nf) (hn : (eb :: l).Nodup) (hr : Rg (eb :: l) pf nf) (hj : l[j]? = some b) :
    Calls Tryd.prog 42 #[ptr b] w fun e w' => e = .returned (.tuple #[]) ∧ ∃ pf' nf', Aside (Sts w' (eb :: l.eraseIdx j) f pf' nf' ∧ Rg (eb :: l.eraseIdx j) pf' nf' ∧ Cells w' b 79 (tc (f b) (vF (pf b)) (vF (nf b)))) ∧ Aside (Keeps (fun c => c ∈ eb :: l) w w') := by
  have bm : b ∈ eb :: l := List.mem_cons_of_mem _ (List.mem_of_getElem? hj)
  obtain ⟨p, ep, pm⟩ := hr.ahead bm
  obtain ⟨q, eq, qm⟩ := hr.behind bm
  have hj' : (eb :: l)[j + 1]? = some b := hj
  have hlt := lt_of_some hj'
  obtain ⟨r1, r2⟩ := hr _ b hj'
  rw [eq] at r1
  rw [ep] at r2
  have hne := nx_ne (n := (eb :: l).length) (j := j + 1) (by rw [List.length_cons] at hlt ⊢; omega)
  have bp : b ≠ p := fun e => hne.2 (nodup_idx hn (by rw [← r2, e]) hj')
  have bq : b ≠ q := fun e => hne.1 (nodup_idx hn (by rw [← r1, e]) hj')
  have hbc := hst b bm
  have B0 := Aside.mk hbc
  rw [ep, eq] at hbc
  have hpc := hst p pm
  have hqc := hst q qm
  have c1 : w.cell? ⟨b, 4, none⟩ = some (ptr p) := hbc.cell 4
  have c2 : w.cell? ⟨b, 5, none⟩ = some (ptr q) := hbc.cell 5
  have c3 : w.cell? ⟨p, 5, none⟩ = some (vF (nf p)) := hpc.cell 5
  have c4 : w.cell? ⟨q, 4, none⟩ = some (vF (pf q)) := hqc.cell 4
  have f1 : ∀ j, w.frozen? ⟨p, j, none⟩ = false := hpc.frozen
  have f2 : ∀ j, w.frozen? ⟨q, j, none⟩ = false := hqc.frozen
  have R2 := hr.erase hn hj' ep eq
  have S2 := (hst.setN (b := p) (o := some q)).setP (b := q) (o := some p)
  have H := Aside.mk (And.intro S2 (And.intro R2 (And.intro bp (And.intro bq (And.intro pm qm)))))
  clear hst hbc hpc hqc R2 S2 hr hn r1 r2 hne bp bq pm qm
  go_enter Tryd.func42, Tryd.ntmps42
  go_region
  obtain ⟨S2, R2, bp, bq, pm, qm⟩ := H.it
  go_end0
  refine ⟨rfl, _, _, ⟨fun c hc => (S2 c (sub_erase c hc)).drew, R2, ?_⟩, ⟨?_⟩⟩
  · exact ((B0.it.setOther ⟨p, 5, none⟩ (ptr q) bp).setOther ⟨q, 4, none⟩ (ptr p) bq).drew
  · exact (((Keeps.refl _ _).setCell _ _ (fun _ => pm)).setCell _ _ (fun _ => qm)).drew
theorem Sts.add {w1 : World} {o1 o2 : Option Nat} (h : Sts w l f pf nf) (hk : Keeps (fun c => c = s) w w1) (hs : s ∉ l) (hc : Cells w1 s 79 (tc x (vF o1) (vF o2))) : ∀ l', (∀ b ∈ l', b = s ∨ b ∈ l) → Sts w1 l' (upd f s x) (upd pf s o1) (upd nf s o2) := by
  intro l' hl b hb
  by_cases e : b = s
  · subst e
    rw [upd_same, upd_same, upd_same]
    exact hc
  · rw [upd_other _ _ e, upd_other _ _ e, upd_other _ _ e]
    rcases hl b hb with e' | e'
    · exact absurd e' e
    · exact (h b e').later hk e
set_option maxHeartbeats 1000000 in
theorem lead_ (hb : Cells w c 82 [u0, u1, mv, ptr eb]) (hst : Sts w (eb :: l) f pf nf) (hn : (eb :: l).Nodup) (hr : Rg (eb :: l) pf nf) (hs : s ∉ eb :: l) (hc : Cells w s 79 (tc x a1 a2)) :
    Calls Tryd.prog 43 #[ptr c, ptr s] w fun e w' => e = .returned (.tuple #[]) ∧ ∃ pf' nf', Aside (Sts w' (eb :: s :: l) (upd f s x) pf' nf' ∧ Rg (eb :: s :: l) pf' nf') ∧ Aside (Keeps (fun c => c ∈ eb :: s :: l) w w') := by
  obtain ⟨q, eq, qm⟩ := hr.behind (List.mem_cons_self (a := eb) (l := l))
  have hec := hst eb List.mem_cons_self
  rw [eq] at hec
  have hqc := hst q qm
  have cs : c ≠ s := ne_box hb hc
  have ce : c ≠ eb := ne_box hb hec
  have se : s ≠ eb := fun e => hs (by rw [e]; exact List.mem_cons_self)
  have sq : s ≠ q := fun e => hs (by rw [e]; exact qm)
  have c0 : w.cell? ⟨c, 3, none⟩ = some (ptr eb) := hb.cell 3
  have c1 : w.cell? ⟨eb, 5, none⟩ = some (ptr q) := hec.cell 5
  have c2 : w.cell? ⟨s, 4, none⟩ = some a1 := hc.cell 4
  have c3 : w.cell? ⟨s, 5, none⟩ = some a2 := hc.cell 5
  have c4 : w.cell? ⟨q, 4, none⟩ = some (vF (pf q)) := hqc.cell 4
  have f1 : ∀ j, w.frozen? ⟨s, j, none⟩ = false := hc.frozen
  have f2 : ∀ j, w.frozen? ⟨eb, j, none⟩ = false := hec.frozen
  have f3 : ∀ j, w.frozen? ⟨q, j, none⟩ = false := hqc.frozen
  have R2 := hr.lead hn hs eq
  have K1 : Keeps (fun c => c = s) w ((w.setCell ⟨s, 4, none⟩ (ptr eb)).setCell ⟨s, 5, none⟩ (ptr q)) := ((Keeps.refl (fun c => c = s) w).setCell ⟨s, 4, none⟩ _ (fun _ => rfl)).setCell ⟨s, 5, none⟩ _ (fun _ => rfl)
  have C1 : Cells ((w.setCell ⟨s, 4, none⟩ (ptr eb)).setCell ⟨s, 5, none⟩ (ptr q)) s 79 (tc x (vF (some eb)) (vF (some q))) := (hc.setCell 4 (ptr eb)).setCell 5 (ptr q)
  have S1 := hst.add K1 hs C1 (eb :: s :: l) (fun b hb => by
    rcases List.mem_cons.1 hb with e | e
    · exact .inr (by rw [e]; exact List.mem_cons_self)
    · rcases List.mem_cons.1 e with e | e
      · exact .inl e
      · exact .inr (List.mem_cons_of_mem _ e))
  have S2 := (S1.setN (b := eb) (o := some s)).setP (b := q) (o := some s)
  have k1 : eb ∈ eb :: s :: l := List.mem_cons_self
  have k2 : s ∈ eb :: s :: l := List.mem_cons_of_mem _ List.mem_cons_self
  have k3 : q ∈ eb :: s :: l := by
    rcases List.mem_cons.1 qm with e | e
    · rw [e]; exact k1
    · exact List.mem_cons_of_mem _ (List.mem_cons_of_mem _ e)
  have H := Aside.mk (And.intro S2 (And.intro R2 (And.intro k1 (And.intro k2 k3))))
  have X := Aside.mk (And.intro C1 (And.intro (hec.later K1 (fun e => se e.symm)) (And.intro (hqc.later K1 (fun e => sq e.symm)) K1)))
  have Y := Aside.mk hb
  clear hb hst hn hr hec hqc hc R2 S1 S2 C1 K1 k1 k2 k3 hs qm
  go_enter Tryd.func43, Tryd.ntmps43
  apply wp_seq
  go_region
  simp only [Exit.then]
  generalize hW : World.drew ((w.setCell ⟨s, 4, none⟩ (.pointer (some ⟨eb, 0, none⟩))).setCell ⟨s, 5, none⟩ (.pointer (some ⟨q, 0, none⟩))) = w1
  obtain ⟨D1, D2, D3, K1⟩ : Cells w1 s 79 (tc x (ptr eb) (ptr q)) ∧ Cells w1 eb 79 (tc (f eb) (vF (pf eb)) (ptr q)) ∧ (∃ a b y, Cells w1 q 79 (tc y a b)) ∧ Keeps (fun c => c = s) w w1 := by
    rw [← hW]
    exact ⟨X.it.1.drew, X.it.2.1.drew, ⟨_, _, _, X.it.2.2.1.drew⟩, X.it.2.2.2.drew⟩
  clear c1 c2 c3 c4 f1 f2 f3
  have d0 : w1.cell? ⟨c, 3, none⟩ = some (ptr eb) := (Y.it.later K1 cs).cell 3
  obtain ⟨y1, y2, y3, D3⟩ := D3
  have d1 : w1.cell? ⟨s, 4, none⟩ = some (ptr eb) := D1.cell 4
  have d2 : w1.cell? ⟨s, 5, none⟩ = some (ptr q) := D1.cell 5
  have d3 : w1.cell? ⟨eb, 5, none⟩ = some (ptr q) := D2.cell 5
  have d4 : w1.cell? ⟨q, 4, none⟩ = some y1 := D3.cell 4
  have f2 : ∀ j, w1.frozen? ⟨eb, j, none⟩ = false := D2.frozen
  have f3 : ∀ j, w1.frozen? ⟨q, j, none⟩ = false := D3.frozen
  have HW := Aside.mk hW
  clear hW D1 D2 D3 K1 c0
  go_region
  go_end0
  obtain ⟨S2, R2, k1, k2, k3⟩ := H.it
  rw [← HW.it]
  refine ⟨rfl, _, _, ⟨fun c hc => ?_, R2⟩, ⟨?_⟩⟩
  · exact (S2 c hc).drew
  · exact (((((Keeps.refl _ _).setCell _ _ (fun _ => k2)).setCell _ _ (fun _ => k2)).drew.setCell _ _ (fun _ => k1)).setCell _ _ (fun _ => k3)).drew
theorem sum_erase (h : CaI w c mb eb l f pf nf room) (hj : l[j]? = some b) : sumL ((l.eraseIdx j).map f) = sumL (l.map f) - (f b).w := by
  have hn := List.nodup_cons.1 h.nodup
  rw [map_eraseD h.inj hj hn.2]
  refine sumL_drop ?_
  rw [find_fk, fk_eq h.inj (List.mem_of_getElem? hj) rfl]
  rfl
set_option maxHeartbeats 1000000 in
theorem letGo_ (h : CaI w c mb eb l f pf nf room) (hj : l[j]? = some b) :
    Calls Tryd.prog 41 #[ptr c, ptr b] w fun e w' => e = .returned (.tuple #[]) ∧ ∃ pf' nf', Aside (CaI w' c mb eb (l.eraseIdx j) f pf' nf' room ∧ Cells w' b 79 (tc (f b) (vF (pf b)) (vF (nf b)))) ∧ Aside (Keeps (fun x => x = c ∨ x = mb ∨ x ∈ eb :: l) w w') := by
  have hlt := lt_of_some hj
  have bm := List.mem_of_getElem? hj
  have bm' : b ∈ eb :: l := List.mem_cons_of_mem _ bm
  have hn := List.nodup_cons.1 h.nodup
  have he := sum_erase h hj
  have hm := map_eraseD h.inj hj hn.2
  have ok2 : LOk room ((l.eraseIdx j).map f) := by rw [hm]; exact h.ok.drop _
  have s0 := sumL_nonneg ok2.w0
  have s1 := ok2.sum
  have r1 := h.ok.r1
  have w1' := (h.okOf bm).w
  have m1 := h.map_box
  have m2 := h.map_ne
  have m3 := h.box_ne
  have hbc := h.sts b bm'
  obtain ⟨w1, hdel, hm2, k2'⟩ := (h.map.later (S := Nowhere) ((Keeps.refl _ _).drew) (fun x => x)).drop (h.kyOf bm) (fk_eq h.inj bm rfl)
  have k2 : Keeps (fun x => x = mb) w w1 := (((Keeps.refl Nowhere w).drew).any).trans k2'
  have kb : ∀ x ∈ eb :: l, x ≠ mb := fun x hx e => m2 x hx e.symm
  have hb1 := h.box.later k2 (fun e => m1 e.symm)
  have hs1 := h.sts.later k2 kb
  have hK1 : Keeps (fun x => x = c) w1 (w1.setCell ⟨c, 1, none⟩ (.int .i64 (sumL (l.map f) - (f b).w))).drew := ((Keeps.refl (fun x => x = c) w1).setCell ⟨c, 1, none⟩ _ (fun _ => rfl)).drew
  have LV := Aside.mk (leave_ (hs1.later hK1 (fun x hx e => m3 x hx e.symm)) h.nodup h.ring hj)
  have c0 : w.cell? ⟨c, 2, none⟩ = some (.map (some mb)) := h.box.cell 2
  have c2 : w1.cell? ⟨c, 1, none⟩ = some (.int .i64 (sumL (l.map f))) := hb1.cell 1
  have c3 : w1.cell? ⟨b, 2, none⟩ = some (.int .i64 (f b).w) := (hs1 b bm').cell 2
  have f1 : ∀ j, w1.frozen? ⟨c, j, none⟩ = false := hb1.frozen
  have hb2 := (hb1.setCell 1 (.int .i64 (sumL (l.map f) - (f b).w))).drew
  rw [← fk_erase (kf := fun b => (f b).k) h.inj hn.2 hj rfl] at hm2
  have ck0 := hbc.cell 0
  have ck1 := hbc.cell 1
  simp only [List.getElem?_cons_zero, List.getElem?_cons_succ] at ck0 ck1
  have b1 : -9223372036854775808 ≤ sumL (l.map f) - (f b).w := by omega
  have b2 : sumL (l.map f) - (f b).w ≤ 9223372036854775807 := by omega
  have H := Aside.mk (And.intro h (And.intro hm2 (And.intro k2 (And.intro hb2 (And.intro he (And.intro ok2 hK1))))))
  clear h hm2 k2 k2' hb1 hs1 hb2 he ok2 hm m1 m2 m3 kb hbc s0 s1 r1 w1' hK1 bm bm'
  go_enter Tryd.func41, Tryd.ntmps41
  apply wp_seq
  go_region
  simp only [Exit.then]
  apply wp_seq
  go_region
  simp only [Exit.then]
  go_wp2_with (first | (go_at_call 42; refine LV.it.mono ?_; clear LV; rintro e w3 ⟨rfl, pf', nf', J1, J2⟩) | fail)
  go_end0
  obtain ⟨h, hm2, k2, hb2, he, ok2, hK1⟩ := H.it
  obtain ⟨hst, hr, hbc⟩ := J1.it
  have k3 := J2.it
  refine ⟨rfl, pf', nf', ⟨⟨?_, ?_, hst, ?_, hr, ok2⟩, ?_⟩, ⟨?_⟩⟩
  · rw [he]
    exact hb2.later k3 (fun hx => h.box_ne c hx rfl)
  · rw [List.length_eraseIdx_of_lt hlt]
    exact (hm2.later hK1 (fun e => h.map_box e)).later k3 (fun hx => h.map_ne mb hx rfl)
  · refine List.nodup_cons.2 ⟨fun hx => hn.1 (List.mem_of_mem_eraseIdx hx), hn.2.eraseIdx j⟩
  · exact hbc
  · refine ((k2.mono (fun c e _ => .inr (.inl e))).next hK1 (fun c e _ => .inl e)).next k3 (fun c e _ => .inr (.inr e))
theorem drop_none (h : CaI w c mb eb l f pf nf room) (hk : Ky k) (hm : fk l (fun b => (f b).k) k = none) : Calls Tryd.prog 13 #[ptr c, kv k] w fun e w' => e = .returned (.bool false) ∧ w' = w := by
  have hf := find_ h hk
  rw [hm] at hf
  simp only [vF] at hf
  go_enter Tryd.func13, Tryd.ntmps13
  go_upto_region 2 with (first | (go_at_call 39; refine hf.mono ?_; rintro e w' ⟨rfl, rfl⟩) | fail)
  go_wp2
  go_ret
  exact ⟨rfl, rfl⟩
theorem drop_nil (k : Int) (w : World) : Calls Tryd.prog 13 #[.pointer none, kv k] w fun e w' => e = .returned (.bool false) ∧ w' = w := by
  have hf := find_nil k w
  go_enter Tryd.func13, Tryd.ntmps13
  go_upto_region 2 with (first | (go_at_call 39; refine hf.mono ?_; rintro e w' ⟨rfl, rfl⟩) | fail)
  go_wp2
  go_ret
  exact ⟨rfl, rfl⟩
end Go.Proofs.YthjeeianlgkaaaaDoor.Lulnn
