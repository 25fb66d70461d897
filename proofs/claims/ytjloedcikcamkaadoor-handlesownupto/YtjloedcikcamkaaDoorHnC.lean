/-
  package handles: Drop
-/
import Derived.Test.YtjloedcikcamkaaDoorHnB
namespace Go.Proofs.YtjloedcikcamkaaDoor
open Go.RowKit Go.Maps

variable {own own' : Nat → Nat} {i p g : Nat} {w w' : World} {L : Hl} {I : Nat → Prop} {A : Nat → Addr} {z : Int} {x : Pl}

theorem drop_nil (w : World) (hz : Zw z) : Calls Tryd.prog 12 #[.pointer none, .int .i64 z] w fun e w' => e = .returned (.bool false) ∧ Aside (Keeps Nowhere w w') := by
  have F := Aside.mk (find_nil w hz)
  go_enter Tryd.func12, Tryd.ntmps12
  go_wp2_with (first | (go_at_call 16; refine F.it.mono ?_; rintro e w2 ⟨rfl, K2⟩))
  go_ret
  exact ⟨rfl, ⟨K2.it.alloc _⟩⟩
set_option maxHeartbeats 1000000 in
theorem drop_at (h : HnO own i w p g L) (hz : Zw z) : Calls Tryd.prog 12 #[ptr p, .int .i64 z] w fun e w' => e = .returned (.bool (hfind L z).isSome) ∧ Aside (HnO own i w' p g (hdel L z) ∧ Sn (fun k => k = i) own w own w') := by
  have F := Aside.mk (find_at h hz)
  have H := Aside.mk h
  cases hl : hfind L z with
  | none =>
    rw [hl] at F
    rw [hdel_absent hl]
    clear h hl
    go_enter Tryd.func12, Tryd.ntmps12
    go_wp2_with (first | (go_at_call 16; refine F.it.mono ?_; rintro e w2 ⟨rfl, K2⟩))
    go_ret
    exact ⟨rfl, ⟨H.it.quiet (K2.it.alloc _), Sn.same (K2.it.alloc _)⟩⟩
  | some x =>
    rw [hl] at F
    have HF := Aside.mk hl
    obtain ⟨xc, xl, xd⟩ := x
    have F' : Aside (Calls Tryd.prog 16 #[ptr p, .int .i64 z] w fun e w' => e = .returned (.tuple #[.agg #[.int .i64 xc, .int .i64 xl, .int .u32 (xd : Nat)], .bool true]) ∧ Aside (Keeps Nowhere w w')) := F
    clear h hl F
    go_enter Tryd.func12, Tryd.ntmps12
    go_upto_region 2 with (first | (go_at_call 16; refine F'.it.mono ?_; rintro e w2 ⟨rfl, K2⟩))
    have K3 := Aside.mk (K2.it.alloc (.cells #[.int .i64 xc, .int .i64 xl, .int .u32 (xd : Nat)] 33))
    have C3 := Aside.mk (Cells.new w2 33 [.int .i64 xc, .int .i64 xl, .int .u32 (xd : Nat)])
    obtain ⟨W3, hW3⟩ : ∃ W3, w2.alloc (.cells #[.int .i64 xc, .int .i64 xl, .int .u32 (xd : Nat)] 33) = W3 := ⟨_, rfl⟩
    have e3 : w2.alloc (.cells [.int .i64 xc, .int .i64 xl, .int .u32 (xd : Nat)].toArray 33) = W3 := hW3
    rw [e3] at C3
    rw [hW3] at K3 ⊢
    obtain ⟨b, hb⟩ : ∃ b, w2.heap.size = b := ⟨_, rfl⟩
    rw [hb] at C3 ⊢
    clear hW3 e3 hb F'
    have H3 := Aside.mk (H.it.quiet K3.it)
    obtain ⟨mb, qb, hc, hm, hq, ho1, ho2, hne⟩ := H3.it.it
    have HC := Aside.mk hc
    have hmp : mb ≠ p := fun e => by obtain ⟨es, clock, hmb⟩ := hm.isMap; have := HC.it.1; unfold Cells at this; rw [← e, hmb] at this; cases this
    have hqp : qb ≠ p := fun e => by obtain ⟨es, clock, hmb⟩ := hq.isMap; have := HC.it.1; unfold Cells at this; rw [← e, hmb] at this; cases this
    have hmb2 : mb ≠ b := fun e => by obtain ⟨es, clock, hmb⟩ := hm.isMap; have := C3.it; unfold Cells at this; rw [← e, hmb] at this; cases this
    have hqb2 : qb ≠ b := fun e => by obtain ⟨es, clock, hmb⟩ := hq.isMap; have := C3.it; unfold Cells at this; rw [← e, hmb] at this; cases this
    obtain ⟨w4, hd4, M4, K4⟩ := hm.drop H3.it.ok hz
    have HM4 := Aside.mk M4
    have HK4 := Aside.mk K4
    have HW := Aside.mk (And.intro ho1 (And.intro ho2 hne))
    have Q4 := hq.later K4 (fun e => hne e.symm)
    obtain ⟨w5, hd5, Q5, K5⟩ := (Q4.later (S := Nowhere) ((Keeps.refl _ _).drew) (fun x => x)).drop H3.it.ok HF.it
    have HQ5 := Aside.mk Q5
    have HK5 := Aside.mk K5
    have D4 := Aside.mk (hc.1.later K4 (fun e => hmp e.symm))
    have B4 := Aside.mk (C3.it.later K4 (fun e => hmb2 e.symm))
    have c1 : W3.cell? ⟨p, 1, none⟩ = some (.map (some mb)) := by rw [HC.it.1.cell]; rfl
    have c2 : w4.cell? ⟨p, 2, none⟩ = some (.map (some qb)) := by rw [D4.it.cell]; rfl
    have e0 : w4.cell? ⟨b, 0, none⟩ = some (.int .i64 xc) := by rw [B4.it.cell]; rfl
    have e1 : w4.cell? ⟨b, 1, none⟩ = some (.int .i64 xl) := by rw [B4.it.cell]; rfl
    have e2 : w4.cell? ⟨b, 2, none⟩ = some (.int .u32 (xd : Nat)) := by rw [B4.it.cell]; rfl
    clear hc hm hq ho1 ho2 hne M4 K4 Q4 Q5 K5
    go_wp2_with fail
    go_region
    go_wp2_with fail
    go_ret
    have ow : own p = i := HC.it.2
    have D5 := (D4.it.later (S := Nowhere) ((Keeps.refl _ _).drew) (fun x => x)).later HK5.it (fun e => hqp e.symm)
    refine ⟨rfl, ⟨⟨⟨mb, qb, ⟨D5, ow⟩, (HM4.it.later (S := Nowhere) ((Keeps.refl _ _).drew) (fun x => x)).later HK5.it HW.it.2.2, HQ5.it, HW.it.1, HW.it.2.1, HW.it.2.2⟩, H3.it.ok.del z⟩, ⟨fun _ _ => rfl, ?_⟩⟩⟩
    have k2 : Keeps (fun k => k = mb ∨ k = qb) w w5 := ((K3.it.mono (fun _ e _ => e.elim)).trans (HK4.it.mono (fun _ e _ => .inl e))).trans (((Keeps.refl _ w4).drew).trans (HK5.it.mono (fun _ e _ => .inr e)))
    exact k2.mono (fun k e _ => by rcases e with e | e; (· rw [e]; exact HW.it.1); (· rw [e]; exact HW.it.2.1))
end Go.Proofs.YtjloedcikcamkaaDoor
