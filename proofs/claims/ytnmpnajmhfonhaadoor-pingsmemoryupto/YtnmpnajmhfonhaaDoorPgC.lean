/-
  package pings: Heard
-/
import Derived.Test.YtnmpnajmhfonhaaDoorPgB
namespace Go.Proofs.YtnmpnajmhfonhaaDoor
open Go.RowKit Fuint32
attribute [-go_sem] Builtin.append_

variable {A : Nat → Addr} {w w' W w0 : World} {own own' : Nat → Nat} {i r p mb fp first : Nat} {av fv v v' x sv : Value} {gone : List Value} {m : Pm} {L ns ms : List Nat} {I : Nat → Prop}

theorem one32 (L : List Nat) : ∀ u ∈ L.map e32, u.oneCell' = true := by
  intro u hu
  obtain ⟨x, _, rfl⟩ := List.mem_map.1 hu
  rfl
/-- append to a row of numbers: where it lies behind it -/
theorem app32 (W : World) (base : Nat) (hown : W.ownsRow base 37 1 v ns.length (ns.map e32)) (hr : ReadsK 1 W sv ms.length (ms.map e32)) (hb : (ns.length + ms.length) * 4 ≤ 140737488355328) (hB : base ≤ W.heap.size) :
    ∃ (a : Option Addr) (l c : Nat) (w' : World), (∀ ty, (Builtin.append_ #[29, 29] ty #[v, sv]).run Tryd.prog W = .ok (.slice a l c) w') ∧ w'.ownsRow base 37 1 (.slice a l c) (ns ++ ms).length ((ns ++ ms).map e32) ∧ Keeps (fun b => v.ownBlock = some b) W w' ∧ ∀ b, (Value.slice a l c).ownBlock = some b → v.ownBlock = some b ∨ W.heap.size ≤ b := by
  obtain ⟨i, hi, hz0, hz1, hz2⟩ := info_parts Pg.u32info
  obtain ⟨v', w', run, o', g', b'⟩ := run_appendR (P := Tryd.prog) W base 29 37 i _ 1 4 Tryd.underlying29 hi hz0 hz1 hz2 rfl (by decide) v ns.length _ hown sv ms.length _ hr (one32 ms) hb (by unfold maxLen; omega) hB
  rw [← List.map_append, ← List.length_append] at o'
  obtain ⟨a, l, c, rfl⟩ := owns_shapeK o'
  exact ⟨a, l, c, w', run, o', grown_keeps g', b'⟩
theorem reads_new1 (W : World) (x : Nat) : ReadsK 1 (W.alloc (.cells #[e32 x] 37)) (.slice (some ⟨W.heap.size, 0, none⟩) 1 1) [x].length ([x].map e32) :=
  ⟨rfl, _, 1, rfl, Nat.le_refl _, by decide, fun h => (by cases h), fun j u hj => ⟨_, _, rfl, by
    cases j with
    | zero => simp only [List.map_cons, List.map_nil, List.getElem?_cons_zero, Option.some.injEq] at hj; subst hj; exact (Cells.new W 37 [e32 x]).cell 0
    | succ j => simp at hj⟩⟩

theorem heard_nil (hn : w.cell? ⟨1, 0, none⟩ = some v) (t : Nat) : Calls Tryd.prog 18 #[.pointer none, .int .u32 (t : Nat)] w fun e w' => e = .returned v ∧ Aside (Keeps Nowhere w w') := by
  go_enter Tryd.func18, Tryd.ntmps18
  go_wp2
  go_ret
  exact ⟨rfl, ⟨Keeps.refl _ _⟩⟩
set_option maxRecDepth 8000 in
theorem pheard (h : PgV own i r w x m) (t : Nat) (ht : t ≤ 4294967295) (hb : (m.an.length + 1) * 4 ≤ 140737488355328) (hs : Sents 124 codeVars A w) : Calls Tryd.prog 18 #[x, .int .u32 (t : Nat)] w fun e w' => ∃ ev, e = .returned ev ∧ Hid (Coded A ev (m.heardC t)) ∧ Aside (∃ own', PgV own' i r w' x (m.heard t) ∧ Sn (fun k => k = i ∨ k = r) own w own' w') := by
  rcases h with ⟨rfl, rfl⟩ | ⟨p, rfl, h⟩
  · refine (heard_nil (hs.cell 0 _ rfl) t).mono ?_
    rintro e w' ⟨rfl, K⟩
    exact ⟨_, rfl, hide (Coded.mk 0 _ (by decide) (by decide) rfl), ⟨own, .inl ⟨rfl, rfl⟩, (Sn.same K.it)⟩⟩
  have H := Aside.mk h
  obtain ⟨mb, fp, av, fv, f, g, h, hp, hm, ha, ho⟩ := h
  have c2 : w.cell? ⟨p, 2, none⟩ = some (.map (some mb)) := by rw [h.box.cell]; rfl
  have hl := h.mp.look ht
  have h0 : ¬ m.most = 0 := by have := h.pos; omega
  unfold Pm.heardC Pm.heard
  rw [if_neg h0]
  have K1 : Aside (Keeps Nowhere w (w.alloc (.cells #[] 64))) := ⟨(Keeps.refl _ _).alloc _⟩
  cases hx : (tlook m.L t).isSome with
  | false =>
    rw [hx] at hl
    have hg : Pg.gotV (tlook m.L t) = .agg #[] := by cases tlook m.L t <;> rfl
    rw [hg] at hl
    simp only [Bool.false_eq_true, if_false]
    have sp := (hs.later K1.it.bel).cell 21 _ rfl
    clear h ha ho hs h0 hx hg hm hp
    go_enter Tryd.func18, Tryd.ntmps18
    go_wp2_with fail
    go_ret
    exact ⟨_, rfl, hide (Coded.mk 21 _ (by decide) (by decide) rfl), ⟨own, .inr ⟨p, rfl, H.it.quiet K1.it⟩, (Sn.same K1.it)⟩⟩
  | true =>
    rw [hx] at hl
    have hg : Pg.gotV (tlook m.L t) = .agg #[] := by cases tlook m.L t <;> rfl
    rw [hg] at hl
    simp only [if_true]
    have h1 := h.quiet K1.it
    have d2 : (w.alloc (.cells #[] 64)).cell? ⟨p, 2, none⟩ = some (.map (some mb)) := by rw [h1.box.cell]; rfl
    obtain ⟨W2, hd, hm2, K2⟩ := h1.mp.drop h.ok.up ht
    have b2 := h1.box.later K2 h.ne_map
    obtain ⟨a0, l0, c0, hav⟩ := owns_shapeK h.an
    have e2 : W2.cell? ⟨p, 3, none⟩ = some (.slice a0 l0 c0) := by rw [b2.cell, hav]; rfl
    have K3 : Keeps Nowhere W2 (W2.alloc (.cells #[e32 t] 37)) := (Keeps.refl _ _).alloc _
    have an3 : (W2.alloc (.cells #[e32 t] 37)).ownsRow 0 37 1 (.slice a0 l0 c0) m.an.length (m.an.map e32) := by rw [← hav]; exact owns_later (owns_later h1.an K2 (fun k hk e => h.an_map (by rw [← e]; exact hk))) K3 (fun _ _ x => x)
    obtain ⟨a4, l4, c4, W4, hrun, o4, K4, B4⟩ := app32 (ns := m.an) (ms := [t]) (W2.alloc (.cells #[e32 t] 37)) 0 an3 (reads_new1 W2 t) hb (Nat.zero_le _)
    rw [← hav] at K4 B4
    have b4 := (b2.later K3 (fun x => x)).later K4 h.ne_an
    have f4 := b4.frozen 3
    have g4 : W4.cell? ⟨p, 3, none⟩ = some (.slice a0 l0 c0) := by rw [b4.cell, hav]; rfl
    have K24 : Keeps (fun k => k = mb ∨ av.ownBlock = some k) w W4 := (K1.it.mono (fun _ x _ => x.elim)).trans ((K2.mono (fun _ e _ => .inl e)).trans ((K3.mono (fun _ x _ => x.elim)).trans (K4.mono (fun _ e _ => .inr e))))
    have K5 : Keeps (fun k => k = p) W4 (W4.setCell ⟨p, 3, none⟩ (.slice a4 l4 c4)) := (Keeps.refl _ _).setCell _ _ (fun _ => rfl)
    have m4 : Pg.MapV W4 mb (tdel m.L t) := (hm2.later K3 (fun x => x)).later K4 h.an_map
    have hok := h.ok.heard t
    unfold Pm.heard at hok
    rw [hx, if_pos rfl] at hok
    have K45 : Keeps (fun k => (k = mb ∨ av.ownBlock = some k) ∨ k = p) w (W4.setCell ⟨p, 3, none⟩ (.slice a4 l4 c4)) := (K24.mono (fun _ e _ => .inl e)).trans (K5.mono (fun _ e _ => .inr e))
    have hlt4 : w.heap.size ≤ (W2.alloc (.cells #[e32 t] 37)).heap.size := Nat.le_trans K1.it.size (Nat.le_trans K2.size K3.size)
    have F : Aside (∃ own', PgV own' i r (W4.setCell ⟨p, 3, none⟩ (.slice a4 l4 c4)) (ptr p) { m with L := tdel m.L t, an := m.an ++ [t] } ∧ Sn (fun k => k = i ∨ k = r) own w own' (W4.setCell ⟨p, 3, none⟩ (.slice a4 l4 c4))) := ⟨by
      refine ⟨give own w.heap.size r, .inr ⟨p, rfl, mb, fp, .slice a4 l4 c4, fv, f, g, ⟨b4.setCell 3 _, m4.later K5 (fun e => h.ne_map e.symm), owns_later o4 K5 (fun k hk e => ?_), h.q.later K45 (fun k hk e => ?_), h.half, hok, h.pos⟩, (give_old h.box.lt).trans hp, (give_old h.mp.lt).trans hm, fun k hk => ?_, fun k hk => (give_old (h.q.lt k hk)).trans (ho k hk)⟩, ⟨fun k hlt => give_old hlt, K45.mono (fun k e _ => ?_)⟩⟩
      · rw [e] at hk
        rcases B4 p hk with hk | hk
        · exact h.ne_an hk
        · have := h.box.lt
          omega
      · rcases e with (rfl | e) | rfl
        · exact h.q_map hk
        · exact h.an_q e hk
        · exact h.ne_q hk
      · rcases B4 k hk with e | e
        · exact (give_old (owns_lt h.an k e)).trans (ha k e)
        · exact give_new (by omega)
      · rcases e with (rfl | e) | rfl
        · exact .inl hm
        · exact .inr (ha k e)
        · exact .inl hp⟩
    clear h ha ho hs h0 hx hg hm hp h1 hm2 K2 b2 K3 an3 o4 K4 B4 b4 K24 K5 m4 hok K45 hlt4 hav H hb
    go_enter Tryd.func18, Tryd.ntmps18
    go_wp2_with fail
    go_ret
    exact ⟨_, rfl, hide Coded.none, F⟩
end Go.Proofs.YtnmpnajmhfonhaaDoor
