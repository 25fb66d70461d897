/-
  package handles: Bind, Drop
-/
import Derived.Test.YtjloedcikcamkaaDoorHnA
import Derived.BigRegion
namespace Go.Proofs.YtjloedcikcamkaaDoor
open Go.RowKit Go.Maps

variable {own own' : Nat → Nat} {i p g : Nat} {w w' : World} {L : Hl} {I : Nat → Prop} {A : Nat → Addr} {z : Int} {x : Pl}

theorem bind_nil (hs : Sents 113 codeVars A w) : Calls Tryd.prog 14 #[.pointer none, .agg #[.int .i64 x.c, .int .i64 x.l, .int .u32 (x.d : Nat)]] w fun e w' => e = .returned (.tuple #[.int .i64 0, .iface 113 (.pointer (some (A 0)))]) ∧ Aside (Keeps Nowhere w w') := by
  obtain ⟨c, l, d⟩ := x
  have hs' := hs.later (((Keeps.refl Nowhere w).alloc (.cells #[.int .i64 c, .int .i64 l, .int .u32 (d : Nat)] 33))).bel
  have hc := hs'.cell 0 0 rfl
  have K1 := Aside.mk ((Keeps.refl Nowhere w).alloc (.cells #[.int .i64 c, .int .i64 l, .int .u32 (d : Nat)] 33))
  clear hs hs'
  go_enter Tryd.func14, Tryd.ntmps14
  go_wp2
  go_quiet (fail)
  go_wp2
  go_ret2
  exact ⟨rfl, ⟨K1.it.drewN _⟩⟩
/-- what Bind answers -/
def bindC (g : Nat) (L : Hl) (x : Pl) : Int := if (hof L x).isSome then 8 else if 2147483648 ≤ g then 32 else 0
def bindN (g : Nat) (L : Hl) (x : Pl) : Int := if (hof L x).isSome then 0 else if 2147483648 ≤ g then 0 else (g : Int) + 1
def bindG (g : Nat) (L : Hl) (x : Pl) : Nat := if (hof L x).isSome then g else if 2147483648 ≤ g then g else g + 1
def bindL (g : Nat) (L : Hl) (x : Pl) : Hl := if (hof L x).isSome then L else if 2147483648 ≤ g then L else L ++ [((g : Int) + 1, x)]
set_option maxHeartbeats 1000000 in
theorem bind_at (h : HnO own i w p g L) (hx : x.Wide) (hs : Sents 113 codeVars A w) :
    Calls Tryd.prog 14 #[ptr p, .agg #[.int .i64 x.c, .int .i64 x.l, .int .u32 (x.d : Nat)]] w fun e w' => ∃ ev, e = .returned (.tuple #[.int .i64 (bindN g L x), ev]) ∧ Hid (Coded A ev (bindC g L x)) ∧ Aside (HnO own i w' p (bindG g L x) (bindL g L x) ∧ Sn (fun k => k = i) own w own w') := by
  have HX := Aside.mk hx
  obtain ⟨W1, hW1⟩ : ∃ W1, w.alloc (.cells #[.int .i64 x.c, .int .i64 x.l, .int .u32 (x.d : Nat)] 33) = W1 := ⟨_, rfl⟩
  obtain ⟨b, hb⟩ : ∃ b, w.heap.size = b := ⟨_, rfl⟩
  have K1 : Aside (Keeps Nowhere w W1) := ⟨by rw [← hW1]; exact (Keeps.refl _ _).alloc _⟩
  have C1 : Aside (Cells W1 b 33 [.int .i64 x.c, .int .i64 x.l, .int .u32 (x.d : Nat)]) := ⟨by rw [← hW1, ← hb]; exact Cells.new w _ _⟩
  have H1 := Aside.mk (h.quiet K1.it)
  have OF := Aside.mk (of_at H1.it hx)
  have g0 : W1.cell? ⟨b, 0, none⟩ = some (.int .i64 x.c) := by rw [C1.it.cell]; rfl
  have g1 : W1.cell? ⟨b, 1, none⟩ = some (.int .i64 x.l) := by rw [C1.it.cell]; rfl
  have g2 : W1.cell? ⟨b, 2, none⟩ = some (.int .u32 (x.d : Nat)) := by rw [C1.it.cell]; rfl
  have HS := Aside.mk (hs.later K1.it.bel)
  have hbl : b < W1.heap.size := C1.it.lt
  have HB := Aside.mk hb
  have HMB : Aside (∀ mb qb, CellsO own i w p 62 (hcel g mb qb) → p ≠ b) := ⟨fun mb qb hc e => by have := hc.1.lt; omega⟩
  obtain ⟨xc, xl, xd⟩ := x
  unfold bindC bindN bindG bindL
  cases hl : (hof L ⟨xc, xl, xd⟩).isSome with
  | true =>
    rw [hl] at OF
    simp only [if_true]
    generalize (hof L ⟨xc, xl, xd⟩).getD 0 = gv at OF
    clear h hs
    go_enter Tryd.func14, Tryd.ntmps14
    go_upto_region 1 with fail
    clear hW1 hb
    go_wp2_with (first | (go_at_call 13; refine OF.it.mono ?_; rintro e w2 ⟨rfl, K2⟩; have s7 := (HS.it.later K2.it.bel).cell 7 1 rfl))
    go_quiet (fail)
    go_wp2_with fail
    go_ret2
    exact ⟨_, rfl, Coded.mk 7 8 (by decide) (by decide) rfl, ⟨H1.it.quiet (K2.it.drewN _), Sn.same (K1.it.trans (K2.it.drewN _))⟩⟩
  | false =>
    rw [hl] at OF
    have hl' : hof L ⟨xc, xl, xd⟩ = none := by simpa using hl
    have HL := Aside.mk hl'
    simp only [Bool.false_eq_true, if_false]
    generalize (hof L ⟨xc, xl, xd⟩).getD 0 = gv at OF
    have HO := Aside.mk h.ok
    by_cases hr : 2147483648 ≤ g
    · simp only [hr, if_true]
      obtain ⟨mb, qb, hc, _⟩ := H1.it.it
      have HC := Aside.mk hc
      have hr' : (2147483648 : Int) ≤ (g : Int) := by omega
      have hd : decide ((g : Int) ≥ 2147483648) = true := decide_eq_true hr'
      clear h hs hc hr hl hl'
      go_enter Tryd.func14, Tryd.ntmps14
      go_upto_region 1 with fail
      clear hW1 hb
      go_wp2_with (first | (go_at_call 13; refine OF.it.mono ?_; rintro e w2 ⟨rfl, K2⟩; have s7 := (HS.it.later K2.it.bel).cell 31 2 rfl; have c0 : w2.cell? ⟨p, 0, none⟩ = some (.int .i64 g) := by rw [(HC.it.1.later K2.it (fun x => x)).cell]; rfl))
      go_quiet (fail)
      go_wp2_with fail
      go_ret2
      exact ⟨_, rfl, Coded.mk 31 32 (by decide) (by decide) rfl, ⟨H1.it.quiet (K2.it.drewN _), Sn.same (K1.it.trans (K2.it.drewN _))⟩⟩
    · simp only [hr, if_false]
      obtain ⟨mb, qb, hc, hm, hq, ho1, ho2, hne⟩ := H1.it.it
      have hpb : p ≠ b := by
        obtain ⟨mb', qb', hc', _⟩ := h.it
        have := hc'.1.lt
        omega
      have HC := Aside.mk hc
      have HM := Aside.mk hm
      have HQ := Aside.mk hq
      have HW := Aside.mk (And.intro ho1 (And.intro ho2 hne))
      have hr' : (g : Int) ≤ 2147483647 := by omega
      have hr2 : g < 2147483648 := by omega
      have hd : decide ((g : Int) ≥ 2147483648) = false := decide_eq_false (by omega)
      have hg0 : (0 : Int) ≤ (g : Int) := by omega
      clear h hs hc hr hl hl' hm hq ho1 ho2 hne
      go_enter Tryd.func14, Tryd.ntmps14
      go_upto_region 1 with fail
      clear hW1 hb
      go_upto_region 6 with (first | (go_at_call 13; refine OF.it.mono ?_; rintro e w2 ⟨rfl, K2⟩))
      have D := Aside.mk (HC.it.1.later K2.it (fun x => x))
      have B2 := Aside.mk (C1.it.later K2.it (fun x => x))
      have c0 : w2.cell? ⟨p, 0, none⟩ = some (.int .i64 g) := by rw [D.it.cell]; rfl
      have f0 := D.it.frozen 0
      go_upto_region 9 with fail
      have D3 := Aside.mk (D.it.setCell 0 (.int .i64 ((g : Int) + 1)))
      have B3 := Aside.mk (B2.it.setOther ⟨p, 0, none⟩ (.int .i64 ((g : Int) + 1)) (fun e => hpb e.symm))
      have K3 : Aside (Keeps (fun k => k = p) w2 (w2.setCell ⟨p, 0, none⟩ (.int .i64 ((g : Int) + 1)))) := ⟨(Keeps.refl _ _).setCell _ _ (fun _ => rfl)⟩
      generalize w2.setCell ⟨p, 0, none⟩ (.int .i64 ((g : Int) + 1)) = w3 at D3 B3 K3 ⊢
      clear c0 f0
      have hmp : mb ≠ p := fun e => by obtain ⟨es, clock, hmb⟩ := HM.it.isMap; have := HC.it.1; unfold Cells at this; rw [← e, hmb] at this; cases this
      have hqp : qb ≠ p := fun e => by obtain ⟨es, clock, hmb⟩ := HQ.it.isMap; have := HC.it.1; unfold Cells at this; rw [← e, hmb] at this; cases this
      have hmb2 : mb ≠ b := fun e => by obtain ⟨es, clock, hmb⟩ := HM.it.isMap; have := C1.it; unfold Cells at this; rw [← e, hmb] at this; cases this
      have hqb2 : qb ≠ b := fun e => by obtain ⟨es, clock, hmb⟩ := HQ.it.isMap; have := C1.it; unfold Cells at this; rw [← e, hmb] at this; cases this
      have M3 := (HM.it.later K2.it (fun x => x)).later K3.it hmp
      have Q3 := (HQ.it.later K2.it (fun x => x)).later K3.it hqp
      obtain ⟨w4, hup4, M4, K4⟩ := (M3.later (S := Nowhere) ((Keeps.refl _ _).drew) (fun x => x)).store HO.it hr2 ⟨xc, xl, xd⟩
      have c0 : w3.cell? ⟨p, 0, none⟩ = some (.int .i64 ((g : Int) + 1)) := by rw [D3.it.cell]; rfl
      have c1 : w3.cell? ⟨p, 1, none⟩ = some (.map (some mb)) := by rw [D3.it.cell]; rfl
      have e0 : w3.cell? ⟨b, 0, none⟩ = some (.int .i64 xc) := by rw [B3.it.cell]; rfl
      have e1 : w3.cell? ⟨b, 1, none⟩ = some (.int .i64 xl) := by rw [B3.it.cell]; rfl
      have e2 : w3.cell? ⟨b, 2, none⟩ = some (.int .u32 (xd : Nat)) := by rw [B3.it.cell]; rfl
      have HM4 := Aside.mk M4
      have HK4 := Aside.mk K4
      have HQ3 := Aside.mk Q3
      clear M3 Q3 M4 K4
      go_region
      have D4 := Aside.mk ((D3.it.later (S := Nowhere) ((Keeps.refl _ _).drew) (fun x => x)).later HK4.it (fun e => hmp e.symm))
      have B4 := Aside.mk ((B3.it.later (S := Nowhere) ((Keeps.refl _ _).drew) (fun x => x)).later HK4.it (fun e => hmb2 e.symm))
      have Q4 := ((HQ3.it.later (S := Nowhere) ((Keeps.refl _ _).drew) (fun x => x)).later HK4.it (fun e => HW.it.2.2 e.symm))
      obtain ⟨w5, hup5, Q5, K5⟩ := (Q4.later (S := Nowhere) ((Keeps.refl _ _).drew) (fun x => x)).store HO.it hr2 HX.it HL.it
      clear c0 c1 e0 e1 e2 hup4
      have c0 : w4.cell? ⟨p, 0, none⟩ = some (.int .i64 ((g : Int) + 1)) := by rw [D4.it.cell]; rfl
      have c2 : w4.cell? ⟨p, 2, none⟩ = some (.map (some qb)) := by rw [D4.it.cell]; rfl
      have e0 : w4.cell? ⟨b, 0, none⟩ = some (.int .i64 xc) := by rw [B4.it.cell]; rfl
      have e1 : w4.cell? ⟨b, 1, none⟩ = some (.int .i64 xl) := by rw [B4.it.cell]; rfl
      have e2 : w4.cell? ⟨b, 2, none⟩ = some (.int .u32 (xd : Nat)) := by rw [B4.it.cell]; rfl
      have HQ5 := Aside.mk Q5
      have HK5 := Aside.mk K5
      clear Q4 Q5 K5
      go_wp2_with fail
      go_region
      have D5 := Aside.mk ((D4.it.later (S := Nowhere) ((Keeps.refl _ _).drew) (fun x => x)).later HK5.it (fun e => hqp e.symm))
      clear c0 c2 e0 e1 e2 hup5
      have c0 : w5.cell? ⟨p, 0, none⟩ = some (.int .i64 ((g : Int) + 1)) := by rw [D5.it.cell]; rfl
      go_wp2_with fail
      go_ret2
      have ow : own p = i := HC.it.2
      refine ⟨_, rfl, Coded.none, ⟨⟨⟨mb, qb, ⟨D5.it, ow⟩, (HM4.it.later (S := Nowhere) ((Keeps.refl _ _).drew) (fun x => x)).later HK5.it HW.it.2.2, HQ5.it, HW.it.1, HW.it.2.1, HW.it.2.2⟩, HO.it.bind HX.it HL.it hr2⟩, ⟨fun _ _ => rfl, ?_⟩⟩⟩
      have k1 : Keeps (fun k => k = p ∨ k = mb ∨ k = qb) w w3 := ((K1.it.trans K2.it).mono (fun _ e _ => e.elim)).trans (K3.it.mono (fun _ e _ => .inl e))
      have k2 : Keeps (fun k => k = p ∨ k = mb ∨ k = qb) w w5 := ((k1.trans (((Keeps.refl _ w3).drew).trans (HK4.it.mono (fun _ e _ => .inr (.inl e))))).trans (((Keeps.refl _ w4).drew).trans (HK5.it.mono (fun _ e _ => .inr (.inr e)))))
      exact k2.mono (fun k e _ => by rcases e with e | e | e; (· rw [e]; exact ow); (· rw [e]; exact HW.it.1); (· rw [e]; exact HW.it.2.1))
end Go.Proofs.YtjloedcikcamkaaDoor
