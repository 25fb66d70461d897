/-
  package pings: Replied, Answered, Ask, Heard, Asked
-/
import Derived.Test.YtnmpnajmhfonhaaDoorPgA
namespace Go.Proofs.YtnmpnajmhfonhaaDoor
open Go.RowKit Fuint32

variable {A : Nat → Addr} {w w' W w0 : World} {own own' : Nat → Nat} {i r p mb fp first : Nat} {av fv v v' x : Value} {gone : List Value} {m : Pm} {L : List Nat} {I : Nat → Prop}

/-- the queue has changed -/
theorem PgI.queue (h : PgI w p mb fp av fv first gone m) (hp : own p = i) (hm : own mb = i) (ha : ∀ k, av.ownBlock = some k → own k = r) (ho : ∀ k, Fuint32.Own fp fv k → own k = i) {f' : Nat} {g' : List Value} {O : List Nat} (hq : FifoIn w' fp m.most 0 (qn O) v' f' g') (hf : f' ≤ O.length) (hO : O.length ≤ m.most) (hv : ∀ k, v'.ownBlock = some k → fv.ownBlock = some k ∨ w.heap.size ≤ k) (hk : Keeps (Fuint32.Own fp fv) w w') :
    PgO (give own w.heap.size i) i r w' p { m with ow := O } ∧ Sn (fun k => k = i) own w (give own w.heap.size i) w' := by
  refine ⟨⟨mb, fp, av, v', f', g', ⟨h.box.later hk h.ne_q, h.mp.later hk h.q_map, owns_later h.an hk (fun k hk' => h.an_q hk'), hq, hf, ⟨h.ok.top, h.ok.lst, h.ok.up, h.ok.wl, hO⟩, h.pos⟩, (give_old h.box.lt).trans hp, (give_old h.mp.lt).trans hm, fun k hk' => (give_old (owns_lt h.an k hk')).trans (ha k hk'), ?_⟩, ⟨fun k hlt => give_old hlt, hk.mono (fun k e _ => ho k e)⟩⟩
  rintro k (e | e)
  · subst e
    exact (give_old (h.q.lt k (.inl rfl))).trans (ho k (.inl rfl))
  · rcases hv k e with e | e
    · exact (give_old (h.q.lt k (.inr e))).trans (ho k (.inr e))
    · exact give_new e

/-- the first, or 0 -/
def hd0 (L : List Nat) : Nat := L.headD 0
def some0 (L : List Nat) : Bool := !L.isEmpty
theorem repl_of (x : Value) (c : Option Nat) (d : Option Addr) (n k : Nat) (b : Bool) (R : World → Prop) (PT : Pt w x c d) (HD : ∀ W, Keeps Nowhere w W → Calls Tryd.prog 32 #[.pointer d] W fun e w' => e = .returned (.tuple #[.int .u32 (n : Nat), .int .i64 (k : Nat), .bool b]) ∧ Aside (R w')) :
    Calls Tryd.prog 19 #[x] w fun e w' => e = .returned (.tuple #[.int .u32 (n : Nat), .bool b]) ∧ Aside (R w') := by
  have P := Aside.mk (PT w (Keeps.refl _ _))
  have N := Aside.mk HD
  clear PT HD
  go_enter Tryd.func19, Tryd.ntmps19
  go_wp2_with (first | (go_at_call 24; refine P.it.mono ?_; rintro e w1 ⟨a, b, a1, l1, c1, rfl, K1⟩; have F4 := pg_f4 a b c (.slice a1 l1 c1) d) | (go_at_call 32; refine (N.it w1 K1.it).mono ?_; rintro e w2 ⟨rfl, R2⟩) | fail)
  go_ret2
  exact ⟨rfl, R2⟩
theorem prepl (h : PgV own i r w x m) : Calls Tryd.prog 19 #[x] w fun e w' => e = .returned (.tuple #[.int .u32 (hd0 m.ow : Nat), .bool (some0 m.ow)]) ∧ Aside (∃ own', PgV own' i r w' x m.repl ∧ Sn (fun k => k = i) own w own' w') := by
  rcases h with ⟨rfl, rfl⟩ | ⟨p, rfl, h⟩
  · exact repl_of _ none none 0 0 false (fun w' => ∃ own', PgV own' i r w' (.pointer none) Pm.zero.repl ∧ Sn (fun k => k = i) own w own' w') (Pt.nil w) (fun W k => (get_nil W).mono fun _ _ h => ⟨h.1, ⟨own, .inl ⟨rfl, rfl⟩, Sn.same (k.trans h.2)⟩⟩)
  have H := h
  obtain ⟨mb, fp, av, fv, f, g, h, hp, hm, ha, ho⟩ := h
  obtain ⟨most, last, L, an, ow⟩ := m
  cases ow with
  | nil =>
    exact repl_of _ _ _ 0 0 false (fun w' => ∃ own', PgV own' i r w' (ptr p) ⟨most, last, L, an, []⟩ ∧ Sn (fun k => k = i) own w own' w') h.pt (fun W k => (get_empty (h.q.later k (fun _ _ x => x))).mono fun _ _ h' => ⟨h'.1, ⟨own, .inr ⟨p, rfl, H.quiet (k.trans h'.2)⟩, Sn.same (k.trans h'.2)⟩⟩)
  | cons x O =>
    refine repl_of _ _ _ x 0 true (fun w' => ∃ own', PgV own' i r w' (ptr p) ⟨most, last, L, an, O⟩ ∧ Sn (fun k => k = i) own w own' w') h.pt (fun W k => ?_)
    have h2 := h.quiet k
    have hl := h.ok.ol
    have ht := h.ok.top
    have hf := h.half
    simp only [List.length_cons] at hl hf ht
    refine (get_in (x, 0) h2.q (by rw [List.length_map]; simp only [by']; omega) (by rw [List.length_map]; exact hf)).mono ?_
    rintro e w' ⟨rfl, v', f', g', a, b, c, d⟩
    refine ⟨rfl, ⟨?_⟩⟩
    have b1 := b.it.1
    rw [List.length_map] at b1
    have hx := h2.queue hp hm ha ho (O := O) a.it b1 (by simp only; omega) c.it d.it
    exact ⟨_, .inr ⟨p, rfl, hx.1⟩, (Sn.same k).trans hx.2⟩

theorem put_no (hn : w.cell? ⟨1, 0, none⟩ = some v) (t : Nat) : Calls Tryd.prog 20 #[.pointer none, .int .u32 (t : Nat)] w fun e w' => e = .returned v ∧ Aside (Keeps Nowhere w w') := by
  go_enter Tryd.func20, Tryd.ntmps20
  go_wp2
  go_ret
  exact ⟨rfl, ⟨Keeps.refl _ _⟩⟩
theorem asked_full (t : Nat) (a : Addr) (er : Value) (R : World → Prop) (c4 : w.cell? ⟨p, 4, none⟩ = some (ptr fp)) (PU : Calls Tryd.prog 33 #[ptr fp, .int .u32 (t : Nat), .int .i64 0] w fun e w' => e = .returned (.iface 124 (.pointer (some a))) ∧ Aside (w'.cell? ⟨4, 0, none⟩ = some er) ∧ Aside (R w')) :
    Calls Tryd.prog 20 #[ptr p, .int .u32 (t : Nat)] w fun e w' => e = .returned er ∧ Aside (R w') := by
  have P := Aside.mk PU
  clear PU
  go_enter Tryd.func20, Tryd.ntmps20
  go_wp2_with (first | (go_at_call 33; refine P.it.mono ?_; rintro e w1 ⟨rfl, C1, R1⟩; have c1 := C1.it) | fail)
  go_ret
  exact ⟨rfl, R1⟩
theorem asked_ok (t : Nat) (R : World → Prop) (c4 : w.cell? ⟨p, 4, none⟩ = some (ptr fp)) (PU : Calls Tryd.prog 33 #[ptr fp, .int .u32 (t : Nat), .int .i64 0] w fun e w' => e = .returned .nilIface ∧ Aside (R w')) :
    Calls Tryd.prog 20 #[ptr p, .int .u32 (t : Nat)] w fun e w' => e = .returned .nilIface ∧ Aside (R w') := by
  have P := Aside.mk PU
  clear PU
  go_enter Tryd.func20, Tryd.ntmps20
  go_wp2_with (first | (go_at_call 33; refine P.it.mono ?_; rintro e w1 ⟨rfl, R1⟩) | fail)
  go_ret
  exact ⟨rfl, R1⟩
theorem pasked (h : PgV own i r w x m) (t : Nat) (hs : Sents 124 codeVars A w) : Calls Tryd.prog 20 #[x, .int .u32 (t : Nat)] w fun e w' => ∃ ev, e = .returned ev ∧ Hid (Coded A ev m.askedC) ∧ Aside (∃ own', PgV own' i r w' x (m.asked t) ∧ Sn (fun k => k = i) own w own' w') := by
  rcases h with ⟨rfl, rfl⟩ | ⟨p, rfl, h⟩
  · refine (put_no (hs.cell 0 _ rfl) t).mono ?_
    rintro e w' ⟨rfl, K⟩
    exact ⟨_, rfl, hide (Coded.mk _ _ (by decide) (by decide) rfl), ⟨own, .inl ⟨rfl, rfl⟩, Sn.same K.it⟩⟩
  have H := h
  obtain ⟨mb, fp, av, fv, f, g, h, hp, hm, ha, ho⟩ := h
  have c4 : w.cell? ⟨p, 4, none⟩ = some (ptr fp) := by rw [h.box.cell]; rfl
  have h0 : ¬ m.most = 0 := by have := h.pos; omega
  unfold Pm.askedC Pm.asked
  rw [if_neg h0]
  by_cases hx : m.most ≤ m.ow.length
  · rw [if_pos hx, if_pos hx]
    refine (asked_full t _ (.iface 124 (.pointer (some (A 20)))) (fun w' => ∃ own', PgV own' i r w' (ptr p) m ∧ Sn (fun k => k = i) own w own' w') c4 ((put_full h.q t 0 _ (hs.cell 5 _ rfl) (.inl (by rw [qn_len]; exact hx))).mono fun e w' hx => ⟨hx.1, ⟨(hs.later hx.2.bel).cell 20 _ rfl⟩, ⟨own, .inr ⟨p, rfl, H.quiet hx.2⟩, Sn.same hx.2⟩⟩)).mono ?_
    rintro e w' ⟨rfl, R⟩
    exact ⟨_, rfl, hide (Coded.mk _ _ (by decide) (by decide) rfl), R⟩
  · rw [if_neg hx, if_neg hx]
    refine (asked_ok t (fun w' => ∃ own', PgV own' i r w' (ptr p) { m with ow := m.ow ++ [t] } ∧ Sn (fun k => k = i) own w own' w') c4 ?_).mono ?_
    · refine (put_ok h.q t 0 (by rw [qn_len]; omega) (by rw [qn_sum]; exact Nat.le_refl _) (by rw [qn_len]; simp only [by']; have := h.half; have := h.ok.top; omega)).mono ?_
      rintro e w' ⟨rfl, v', a, b, c⟩
      have a1 := a.it
      rw [qn_snoc] at a1
      have hx := h.queue hp hm ha ho a1 (by have := h.half; simp; omega) (by simp; omega) b.it c.it
      exact ⟨rfl, ⟨_, .inr ⟨p, rfl, hx.1⟩, hx.2⟩⟩
    · rintro e w' ⟨rfl, R⟩
      exact ⟨_, rfl, hide Coded.none, R⟩

theorem answered_nil (w : World) : Calls Tryd.prog 16 #[.pointer none] w fun e w' => e = .returned (.slice none 0 0) ∧ w' = w := by
  go_enter Tryd.func16, Tryd.ntmps16
  go_wp2
  go_ret
  exact ⟨rfl, rfl⟩
/-- Answered: the row itself goes out: it is r's; whoever's the next one is -/
theorem panswered (h : PgV own i r w x m) : Calls Tryd.prog 16 #[x] w fun e w' => ∃ (a : Option Addr) (c : Nat), e = .returned (.slice a m.an.length c) ∧ Aside (w'.ownsRow 0 37 1 (.slice a m.an.length c) m.an.length (m.an.map e32)) ∧ Aside (∀ k, (Value.slice a m.an.length c).ownBlock = some k → own k = r) ∧ Aside ((∀ r', PgV own i r' w' x m.told) ∧ Sn (fun k => k = i) own w own w') := by
  rcases h with ⟨rfl, rfl⟩ | ⟨p, rfl, mb, fp, av, fv, f, g, h, hp, hm, ha, ho⟩
  · refine (answered_nil w).mono ?_
    rintro e w' ⟨rfl, rfl⟩
    exact ⟨none, 0, rfl, ⟨World.ownsRow_nil _ _ _ _⟩, ⟨fun k e => by cases e⟩, ⟨fun r' => .inl ⟨rfl, rfl⟩, Sn.refl _ _ _⟩⟩
  obtain ⟨a, l, c, rfl⟩ := owns_shapeK h.an
  obtain rfl : l = m.an.length := by
    rcases h.an.2 with ⟨e, h0⟩ | ⟨g, cap, cur, e, _⟩
    · injection e with _ e1; omega
    · injection e with _ e1
  have c3 : w.cell? ⟨p, 3, none⟩ = some (.slice a m.an.length c) := by rw [h.box.cell]; rfl
  have f3 := h.box.frozen 3
  have K : Keeps (fun k => k = p) w (w.setCell ⟨p, 3, none⟩ (.slice none 0 0)) := (Keeps.refl _ _).setCell _ _ (fun _ => rfl)
  have X : Aside (((∀ r', PgV own i r' (w.setCell ⟨p, 3, none⟩ (.slice none 0 0)) (ptr p) m.told) ∧ Sn (fun k => k = i) own w own (w.setCell ⟨p, 3, none⟩ (.slice none 0 0))) ∧ (w.setCell ⟨p, 3, none⟩ (.slice none 0 0)).ownsRow 0 37 1 (.slice a m.an.length c) m.an.length (m.an.map e32)) := ⟨by
    refine ⟨⟨fun r' => .inr ⟨p, rfl, mb, fp, .slice none 0 0, fv, f, g, ⟨h.box.setCell 3 _, h.mp.later K (fun e => h.ne_map e.symm), World.ownsRow_nil _ _ _ _, h.q.later K (fun k hk e => h.ne_q (by rw [← e]; exact hk)), h.half, h.ok.told, h.pos⟩, hp, hm, fun k e => (by cases e), ho⟩, ⟨fun _ _ => rfl, K.mono (fun k e _ => by rw [e]; exact hp)⟩⟩, owns_later h.an K (fun k hk e => h.ne_an (by rw [← e]; exact hk))⟩⟩
  have HA := Aside.mk ha
  generalize m.an.length = n at c3 X HA ⊢
  clear h ha ho K
  go_enter Tryd.func16, Tryd.ntmps16
  go_wp2
  go_ret
  exact ⟨a, c, rfl, ⟨X.it.2⟩, HA, ⟨X.it.1⟩⟩

theorem ask_nil (hn : w.cell? ⟨1, 0, none⟩ = some v) : Calls Tryd.prog 17 #[.pointer none] w fun e w' => e = .returned (.tuple #[.int .u32 0, v]) ∧ Aside (Keeps Nowhere w w') := by
  go_enter Tryd.func17, Tryd.ntmps17
  go_wp2
  go_quiet (fail)
  go_wp2
  go_ret2
  exact ⟨rfl, ⟨(Keeps.refl _ _).drewN _⟩⟩
theorem pask (h : PgV own i r w x m) (hs : Sents 124 codeVars A w) : Calls Tryd.prog 17 #[x] w fun e w' => ∃ ev, e = .returned (.tuple #[.int .u32 (m.askT : Nat), ev]) ∧ Hid (Coded A ev m.askC) ∧ Aside (PgV own i r w' x m.ask ∧ Sn (fun k => k = i) own w own w') := by
  rcases h with ⟨rfl, rfl⟩ | ⟨p, rfl, h⟩
  · refine (ask_nil (hs.cell 0 _ rfl)).mono ?_
    rintro e w' ⟨rfl, K⟩
    exact ⟨_, rfl, hide (Coded.mk 0 _ (by decide) (by decide) rfl), ⟨.inl ⟨rfl, rfl⟩, Sn.same K.it⟩⟩
  have H := Aside.mk h
  obtain ⟨mb, fp, av, fv, f, g, h, hp, hm, ha, ho⟩ := h
  have c0 : w.cell? ⟨p, 0, none⟩ = some (.int .i64 m.most) := by rw [h.box.cell]; rfl
  have c1 : w.cell? ⟨p, 1, none⟩ = some (.int .u32 m.last) := by rw [h.box.cell]; rfl
  have c2 : w.cell? ⟨p, 2, none⟩ = some (.map (some mb)) := by rw [h.box.cell]; rfl
  have f1 := h.box.frozen 1
  have hl : ∀ q ty, (Builtin.len_ #[54] ty #[.map (some mb)]).run Tryd.prog (w.drewN q) = .ok (.int .i64 m.L.length) (w.drewN q) := fun q => (h.quiet ((Keeps.refl _ _).drewN q)).mp.len
  have h0 : ¬ m.most = 0 := by have := h.pos; omega
  have sl := hs.cell 30 _ rfl
  unfold Pm.askC Pm.askT Pm.ask
  rw [if_neg h0]
  by_cases hx : m.most ≤ m.L.length
  · rw [if_pos hx, if_pos hx, if_pos hx]
    have hd : decide (m.most ≤ m.L.length) = true := decide_eq_true hx
    generalize m.L.length = n at hl hd
    clear h ha ho hs hx h0
    go_enter Tryd.func17, Tryd.ntmps17
    go_wp2_with fail
    go_quiet (fail)
    go_wp2_with fail
    go_quiet (fail)
    go_wp2_with fail
    go_ret2
    exact ⟨_, rfl, hide (Coded.mk 30 _ (by decide) (by decide) rfl), ⟨.inr ⟨p, rfl, H.it.quiet (((Keeps.refl _ _).drewN _).drewN _)⟩, Sn.same (((Keeps.refl _ _).drewN _).drewN _)⟩⟩
  · rw [if_neg hx, if_neg hx, if_neg hx]
    have hd : decide (m.most ≤ m.L.length) = false := decide_eq_false hx
    have ew : IntKind.u32.wrap ((m.last : Int) + 1) = (m.tok : Nat) := by
      unfold Pm.tok
      have := h.ok.lst
      simp [IntKind.wrap, IntKind.bits, IntKind.signed]
    have ST : ∀ q, ∃ w', (Instr.mapUpdate 54 (.map (some mb)) (.int .u32 (m.tok : Nat)) (.agg #[])).run Tryd.prog ((w.drewN q).setCell ⟨p, 1, none⟩ (.int .u32 (m.tok : Nat))).drew = .ok () w' ∧ Aside (PgV own i r w' (ptr p) { m with last := m.tok, L := tins m.L m.tok } ∧ Sn (fun k => k = i) own w own w') ∧ w'.cell? ⟨p, 1, none⟩ = some (.int .u32 (m.tok : Nat)) := fun q => by
      have hq := h.quiet ((Keeps.refl _ _).drewN q)
      have K1 : Keeps (fun k => k = p) (w.drewN q) ((w.drewN q).setCell ⟨p, 1, none⟩ (.int .u32 (m.tok : Nat))).drew := ((Keeps.refl (fun k => k = p) (w.drewN q)).setCell ⟨p, 1, none⟩ (.int .u32 (m.tok : Nat)) (fun _ => rfl)).drew
      have hm1 := hq.mp.later K1 (fun e => h.ne_map e.symm)
      obtain ⟨w2, hrun, hm2, K2⟩ := hm1.store (Nat.lt_of_le_of_lt h.ok.wl (Nat.lt_of_le_of_lt h.ok.top (by decide))) (tok_le m)
      have bx : Cells ((w.drewN q).setCell ⟨p, 1, none⟩ (.int .u32 (m.tok : Nat))).drew p 56 (pcel m.most m.tok mb av fp) := (hq.box.setCell 1 _).later (S := Nowhere) (Keeps.refl _ _).drew (fun x => x)
      have bx2 := bx.later K2 h.ne_map
      have K12 : Keeps (fun k => k = p ∨ k = mb) w w2 := ((Keeps.refl (fun k => k = p ∨ k = mb) w).drewN q).trans ((K1.mono (fun _ e _ => .inl e)).trans (K2.mono (fun _ e _ => .inr e)))
      have hok := h.ok.ask
      unfold Pm.ask at hok
      rw [if_neg hx] at hok
      refine ⟨w2, hrun, ⟨.inr ⟨p, rfl, mb, fp, av, fv, f, g, ⟨bx2, hm2, owns_later h.an K12 (fun k hk e => ?_), h.q.later K12 (fun k hk e => ?_), h.half, hok, h.pos⟩, hp, hm, ha, ho⟩, ⟨fun _ _ => rfl, K12.mono (fun k e _ => ?_)⟩⟩, ?_⟩
      · rcases e with rfl | rfl
        · exact h.ne_an hk
        · exact h.an_map hk
      · rcases e with rfl | rfl
        · exact h.ne_q hk
        · exact h.q_map hk
      · rcases e with rfl | rfl
        · exact hp
        · exact hm
      · rw [bx2.cell]; rfl
    generalize m.L.length = n at hl hd
    generalize m.tok = t at ew ST ⊢
    clear h ha ho hs hx h0 hm hp
    go_enter Tryd.func17, Tryd.ntmps17
    go_wp2_with fail
    go_quiet (fail)
    obtain ⟨w2, hup, F, c5⟩ := ST nq
    go_wp2_with fail
    go_region
    all_goals go_wp2_with fail
    go_ret2
    exact ⟨_, rfl, hide Coded.none, F⟩
end Go.Proofs.YtnmpnajmhfonhaaDoor
