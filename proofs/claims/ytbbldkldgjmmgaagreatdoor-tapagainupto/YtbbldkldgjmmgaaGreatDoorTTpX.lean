/-
  package tap: New, count
-/
import Derived.Test.YtbbldkldgjmmgaaGreatDoorLin
import Derived.Test.YtbbldkldgjmmgaaGreatDoorFd2
namespace Go.Proofs.YtbbldkldgjmmgaaGreatDoor
open Go.RowKit Go.Maps
attribute [-go_sem] run_index_string

abbrev tcl (dp : Nat) (n0 n1 n2 n3 pl : Int) : List Value := [dPtr dp, .int .i64 n0, .int .i64 n1, .int .i64 n2, .int .i64 n3, .int .i64 pl]
/-- the counts fit -/
def Cnt (N : Nat) (n0 n1 n2 n3 pl : Int) : Prop := (0 ≤ n0 ∧ n0 ≤ N) ∧ (0 ≤ n1 ∧ n1 ≤ N) ∧ (0 ≤ n2 ∧ n2 ≤ N) ∧ (0 ≤ n3 ∧ n3 ≤ N) ∧ (0 ≤ pl ∧ pl ≤ N)
def TapC (w : World) (p dp N : Nat) : Prop := ∃ n0 n1 n2 n3 pl, Cells w p 62 (tcl dp n0 n1 n2 n3 pl) ∧ Cnt N n0 n1 n2 n3 pl
/-- a tap that lives -/
structure TapO (A : Nat → Addr) (w0 : World) (own : Nat → Nat) (w : World) (p dp : Nat) (most : Int) (hs : List Int) (N : Nat) : Prop where
  g : Gr A w0 own w
  d : DecL own 1 w dp most hs
  c : TapC w p dp N
  o : own p = 3
section
variable {A : Nat → Addr} {w0 w w' : World} {own : Nat → Nat} {p dp N : Nat} {most : Int} {hs : List Int}
theorem tapNew_at (G : Gr A w0 own w) (h1 : 1 ≤ most) (h2 : most ≤ 65536) : Calls Tryz.prog 12 #[.int .i64 most] w fun e w' => ∃ p dp own', e = .returned (.tuple #[ptr p, .nilIface]) ∧ Aside (TapO A w0 own' w' p dp most [] 0 ∧ (∀ k, k < w.heap.size → own' k = own k) ∧ Keeps Nowhere w w') := by
  have NS := Aside.mk (new_s (i := 1) (j := 2) G h1 h2)
  clear G h1 h2
  go_enter Tryz.func12, Tryz.ntmps12
  go_upto_region 4 with (first | (go_at_call 29; refine NS.it.mono ?_; rintro e w1 ⟨dp, own1, rfl, X1⟩) | fail)
  go_wp2_with fail
  go_ret2
  have C := Cells.new w1 62 (tcl dp 0 0 0 0 0)
  have K : Keeps Nowhere w1 (w1.alloc (.cells (tcl dp 0 0 0 0 0).toArray 62)) := (Keeps.refl _ _).alloc _
  refine ⟨w1.heap.size, dp, give own1 w1.heap.size 3, rfl, ⟨⟨(X1.it.1.ext (fun k hk => give_old hk)).quiet K, ?_, ⟨0, 0, 0, 0, 0, C, by unfold Cnt; omega⟩, give_new (Nat.le_refl _)⟩, fun k hk => (give_old (Nat.lt_of_lt_of_le hk X1.it.2.2.2.size)).trans (X1.it.2.2.1 k hk), X1.it.2.2.2.trans K⟩⟩
  have D : DecL own1 1 w1 dp most [] := X1.it.2.1
  obtain ⟨⟨g, d, hg⟩, l⟩ := D
  exact ⟨⟨g, (d.ext _ (fun k hk => give_old hk)).quiet K, hg⟩, l⟩
theorem decL_others {own' : Nat → Nat} (D : DecL own 1 w dp most hs) (hk : Keeps (fun k => own k = 3) w w') (he : ∀ k, k < w.heap.size → own' k = own k) : DecL own' 1 w' dp most hs := by
  obtain ⟨⟨g, d, hg⟩, l⟩ := D
  have hl := d.lt
  obtain ⟨hp, ⟨hv, ⟨c, r⟩, ho⟩, hb, hgb⟩ := d
  refine ⟨⟨g, ⟨(he dp hl).trans hp, ⟨hv, ⟨c.later hk (by rw [hp]; decide), owns_later r hk (fun k hk' e => by rw [ho k hk'] at e; cases e)⟩, fun k hk' => (he k (owns_lt r k hk')).trans (ho k hk')⟩, hb, hgb⟩, hg⟩, l⟩
set_option maxRecDepth 20000 in
set_option maxHeartbeats 4000000 in
theorem count_t0 (w : World) {n0 n1 n2 n3 pl v f s l : Int} {dq : Option Addr} {n dc : Nat} (hc : Cells w p 62 (tcl dp n0 n1 n2 n3 pl)) (hn : Cnt N n0 n1 n2 n3 pl) (hN : N + n + 1 ≤ 1152921504606846976) :
    Calls Tryz.prog 32 #[ptr p, frm v 0 f s l (.slice dq n dc)] w fun e w' => e = .returned (.tuple #[]) ∧ Aside (TapC w' p dp (N + n + 1) ∧ Keeps (fun k => k = p) w w') := by
  have hlt := hc.lt
  have hne : w.heap.size ≠ p := by omega
  go_enter Tryz.func32, Tryz.ntmps32
  go_upto_region 1 with fail
  obtain ⟨w1, hw1⟩ : ∃ w1, w.alloc (fbox v 0 f s l (.slice dq n dc)) = w1 := ⟨_, rfl⟩
  have F1 := FB.new w v 0 f s l (.slice dq n dc)
  have K1 : Aside (Keeps Nowhere w w1) := ⟨by rw [← hw1]; exact (Keeps.refl _ _).alloc _⟩
  rw [hw1] at F1 ⊢
  have C1 := Aside.mk (hc.later K1.it (fun x => x))
  clear hw1 hc hlt
  obtain ⟨fb, hfb⟩ : ∃ fb, w.heap.size = fb := ⟨_, rfl⟩
  rw [hfb] at F1 hne ⊢
  clear hfb
  have D1 := Aside.mk (C1.it.later ((Keeps.refl Nowhere w1).drew) (fun x => x))
  have F2 := F1.later (Below.refl _ w1).drew
  obtain ⟨⟨h0, h1, h2, h3, h4⟩, h5⟩ := F1
  obtain ⟨⟨g0, g1, g2, g3, g4⟩, g5⟩ := F2
  have t0 : w1.drew.cell? ⟨p, 0, none⟩ = some (dPtr dp) := by rw [D1.it.cell]; rfl
  have t1 : w1.drew.cell? ⟨p, 1, none⟩ = some (.int .i64 n0) := by rw [D1.it.cell]; rfl
  have f1 := D1.it.frozen 1
  have u0 : w1.cell? ⟨p, 0, none⟩ = some (dPtr dp) := by rw [C1.it.cell]; rfl
  have u5 : w1.cell? ⟨p, 5, none⟩ = some (.int .i64 pl) := by rw [C1.it.cell]; rfl
  have f5 := C1.it.frozen 5
  have HN := Aside.mk hn
  obtain ⟨b0, b1, b2, b3, b4⟩ := hn
  go_region
  go_wp2_with fail
  go_region
  go_wp2_with fail
  go_end0
  have KF : Keeps (fun k => k = p) w1 ((w1.setCell ⟨p, 1, none⟩ (.int .i64 (n0 + 1))).setCell ⟨p, 5, none⟩ (.int .i64 (pl + n))).drew.drew := ((((Keeps.refl (fun k => k = p) w1).setCell _ _ (fun _ => rfl)).setCell _ _ (fun _ => rfl)).drew).drew
  have CF := ((C1.it.setCell 1 (.int .i64 (n0 + 1))).setCell 5 (.int .i64 (pl + n))).later (S := Nowhere) ((Keeps.refl _ _).drew.drew) (fun x => x)
  exact ⟨rfl, ⟨⟨n0 + 1, n1, n2, n3, pl + n, CF, by unfold Cnt; omega⟩, (K1.it.mono (fun _ e _ => e.elim)).trans KF⟩⟩
set_option maxRecDepth 20000 in
set_option maxHeartbeats 4000000 in
theorem count_t1 (w : World) {n0 n1 n2 n3 pl v f s l : Int} {dq : Option Addr} {n dc : Nat} (hc : Cells w p 62 (tcl dp n0 n1 n2 n3 pl)) (hn : Cnt N n0 n1 n2 n3 pl) (hN : N + n + 1 ≤ 1152921504606846976) :
    Calls Tryz.prog 32 #[ptr p, frm v 1 f s l (.slice dq n dc)] w fun e w' => e = .returned (.tuple #[]) ∧ Aside (TapC w' p dp (N + n + 1) ∧ Keeps (fun k => k = p) w w') := by
  have hlt := hc.lt
  have hne : w.heap.size ≠ p := by omega
  go_enter Tryz.func32, Tryz.ntmps32
  go_upto_region 1 with fail
  obtain ⟨w1, hw1⟩ : ∃ w1, w.alloc (fbox v 1 f s l (.slice dq n dc)) = w1 := ⟨_, rfl⟩
  have F1 := FB.new w v 1 f s l (.slice dq n dc)
  have K1 : Aside (Keeps Nowhere w w1) := ⟨by rw [← hw1]; exact (Keeps.refl _ _).alloc _⟩
  rw [hw1] at F1 ⊢
  have C1 := Aside.mk (hc.later K1.it (fun x => x))
  clear hw1 hc hlt
  obtain ⟨fb, hfb⟩ : ∃ fb, w.heap.size = fb := ⟨_, rfl⟩
  rw [hfb] at F1 hne ⊢
  clear hfb
  have D1 := Aside.mk (C1.it.later ((Keeps.refl Nowhere w1).drew) (fun x => x))
  have F2 := F1.later (Below.refl _ w1).drew
  obtain ⟨⟨h0, h1, h2, h3, h4⟩, h5⟩ := F1
  obtain ⟨⟨g0, g1, g2, g3, g4⟩, g5⟩ := F2
  have t0 : w1.drew.cell? ⟨p, 0, none⟩ = some (dPtr dp) := by rw [D1.it.cell]; rfl
  have t1 : w1.drew.cell? ⟨p, 2, none⟩ = some (.int .i64 n1) := by rw [D1.it.cell]; rfl
  have f1 := D1.it.frozen 2
  have u0 : w1.cell? ⟨p, 0, none⟩ = some (dPtr dp) := by rw [C1.it.cell]; rfl
  have u5 : w1.cell? ⟨p, 5, none⟩ = some (.int .i64 pl) := by rw [C1.it.cell]; rfl
  have f5 := C1.it.frozen 5
  have HN := Aside.mk hn
  obtain ⟨b0, b1, b2, b3, b4⟩ := hn
  go_region
  go_wp2_with fail
  go_region
  go_wp2_with fail
  go_end0
  have KF : Keeps (fun k => k = p) w1 ((w1.setCell ⟨p, 2, none⟩ (.int .i64 (n1 + 1))).setCell ⟨p, 5, none⟩ (.int .i64 (pl + n))).drew.drew := ((((Keeps.refl (fun k => k = p) w1).setCell _ _ (fun _ => rfl)).setCell _ _ (fun _ => rfl)).drew).drew
  have CF := ((C1.it.setCell 2 (.int .i64 (n1 + 1))).setCell 5 (.int .i64 (pl + n))).later (S := Nowhere) ((Keeps.refl _ _).drew.drew) (fun x => x)
  exact ⟨rfl, ⟨⟨n0, n1 + 1, n2, n3, pl + n, CF, by unfold Cnt; omega⟩, (K1.it.mono (fun _ e _ => e.elim)).trans KF⟩⟩
set_option maxRecDepth 20000 in
set_option maxHeartbeats 4000000 in
theorem count_t2 (w : World) {n0 n1 n2 n3 pl v f s l : Int} {dq : Option Addr} {n dc : Nat} (hc : Cells w p 62 (tcl dp n0 n1 n2 n3 pl)) (hn : Cnt N n0 n1 n2 n3 pl) (hN : N + n + 1 ≤ 1152921504606846976) :
    Calls Tryz.prog 32 #[ptr p, frm v 2 f s l (.slice dq n dc)] w fun e w' => e = .returned (.tuple #[]) ∧ Aside (TapC w' p dp (N + n + 1) ∧ Keeps (fun k => k = p) w w') := by
  have hlt := hc.lt
  have hne : w.heap.size ≠ p := by omega
  go_enter Tryz.func32, Tryz.ntmps32
  go_upto_region 1 with fail
  obtain ⟨w1, hw1⟩ : ∃ w1, w.alloc (fbox v 2 f s l (.slice dq n dc)) = w1 := ⟨_, rfl⟩
  have F1 := FB.new w v 2 f s l (.slice dq n dc)
  have K1 : Aside (Keeps Nowhere w w1) := ⟨by rw [← hw1]; exact (Keeps.refl _ _).alloc _⟩
  rw [hw1] at F1 ⊢
  have C1 := Aside.mk (hc.later K1.it (fun x => x))
  clear hw1 hc hlt
  obtain ⟨fb, hfb⟩ : ∃ fb, w.heap.size = fb := ⟨_, rfl⟩
  rw [hfb] at F1 hne ⊢
  clear hfb
  have D1 := Aside.mk (C1.it.later ((Keeps.refl Nowhere w1).drew) (fun x => x))
  have F2 := F1.later (Below.refl _ w1).drew
  obtain ⟨⟨h0, h1, h2, h3, h4⟩, h5⟩ := F1
  obtain ⟨⟨g0, g1, g2, g3, g4⟩, g5⟩ := F2
  have t0 : w1.drew.cell? ⟨p, 0, none⟩ = some (dPtr dp) := by rw [D1.it.cell]; rfl
  have t1 : w1.drew.cell? ⟨p, 3, none⟩ = some (.int .i64 n2) := by rw [D1.it.cell]; rfl
  have f1 := D1.it.frozen 3
  have u0 : w1.cell? ⟨p, 0, none⟩ = some (dPtr dp) := by rw [C1.it.cell]; rfl
  have u5 : w1.cell? ⟨p, 5, none⟩ = some (.int .i64 pl) := by rw [C1.it.cell]; rfl
  have f5 := C1.it.frozen 5
  have HN := Aside.mk hn
  obtain ⟨b0, b1, b2, b3, b4⟩ := hn
  go_region
  go_wp2_with fail
  go_region
  go_wp2_with fail
  go_end0
  have KF : Keeps (fun k => k = p) w1 ((w1.setCell ⟨p, 3, none⟩ (.int .i64 (n2 + 1))).setCell ⟨p, 5, none⟩ (.int .i64 (pl + n))).drew.drew := ((((Keeps.refl (fun k => k = p) w1).setCell _ _ (fun _ => rfl)).setCell _ _ (fun _ => rfl)).drew).drew
  have CF := ((C1.it.setCell 3 (.int .i64 (n2 + 1))).setCell 5 (.int .i64 (pl + n))).later (S := Nowhere) ((Keeps.refl _ _).drew.drew) (fun x => x)
  exact ⟨rfl, ⟨⟨n0, n1, n2 + 1, n3, pl + n, CF, by unfold Cnt; omega⟩, (K1.it.mono (fun _ e _ => e.elim)).trans KF⟩⟩
set_option maxRecDepth 20000 in
set_option maxHeartbeats 4000000 in
theorem count_t3 (w : World) {n0 n1 n2 n3 pl v f s l : Int} {dq : Option Addr} {n dc : Nat} (hc : Cells w p 62 (tcl dp n0 n1 n2 n3 pl)) (hn : Cnt N n0 n1 n2 n3 pl) (hN : N + n + 1 ≤ 1152921504606846976) :
    Calls Tryz.prog 32 #[ptr p, frm v 3 f s l (.slice dq n dc)] w fun e w' => e = .returned (.tuple #[]) ∧ Aside (TapC w' p dp (N + n + 1) ∧ Keeps (fun k => k = p) w w') := by
  have hlt := hc.lt
  have hne : w.heap.size ≠ p := by omega
  go_enter Tryz.func32, Tryz.ntmps32
  go_upto_region 1 with fail
  obtain ⟨w1, hw1⟩ : ∃ w1, w.alloc (fbox v 3 f s l (.slice dq n dc)) = w1 := ⟨_, rfl⟩
  have F1 := FB.new w v 3 f s l (.slice dq n dc)
  have K1 : Aside (Keeps Nowhere w w1) := ⟨by rw [← hw1]; exact (Keeps.refl _ _).alloc _⟩
  rw [hw1] at F1 ⊢
  have C1 := Aside.mk (hc.later K1.it (fun x => x))
  clear hw1 hc hlt
  obtain ⟨fb, hfb⟩ : ∃ fb, w.heap.size = fb := ⟨_, rfl⟩
  rw [hfb] at F1 hne ⊢
  clear hfb
  have D1 := Aside.mk (C1.it.later ((Keeps.refl Nowhere w1).drew) (fun x => x))
  have F2 := F1.later (Below.refl _ w1).drew
  obtain ⟨⟨h0, h1, h2, h3, h4⟩, h5⟩ := F1
  obtain ⟨⟨g0, g1, g2, g3, g4⟩, g5⟩ := F2
  have t0 : w1.drew.cell? ⟨p, 0, none⟩ = some (dPtr dp) := by rw [D1.it.cell]; rfl
  have t1 : w1.drew.cell? ⟨p, 4, none⟩ = some (.int .i64 n3) := by rw [D1.it.cell]; rfl
  have f1 := D1.it.frozen 4
  have u0 : w1.cell? ⟨p, 0, none⟩ = some (dPtr dp) := by rw [C1.it.cell]; rfl
  have u5 : w1.cell? ⟨p, 5, none⟩ = some (.int .i64 pl) := by rw [C1.it.cell]; rfl
  have f5 := C1.it.frozen 5
  have HN := Aside.mk hn
  obtain ⟨b0, b1, b2, b3, b4⟩ := hn
  go_region
  go_wp2_with fail
  go_region
  go_wp2_with fail
  go_end0
  have KF : Keeps (fun k => k = p) w1 ((w1.setCell ⟨p, 4, none⟩ (.int .i64 (n3 + 1))).setCell ⟨p, 5, none⟩ (.int .i64 (pl + n))).drew.drew := ((((Keeps.refl (fun k => k = p) w1).setCell _ _ (fun _ => rfl)).setCell _ _ (fun _ => rfl)).drew).drew
  have CF := ((C1.it.setCell 4 (.int .i64 (n3 + 1))).setCell 5 (.int .i64 (pl + n))).later (S := Nowhere) ((Keeps.refl _ _).drew.drew) (fun x => x)
  exact ⟨rfl, ⟨⟨n0, n1, n2, n3 + 1, pl + n, CF, by unfold Cnt; omega⟩, (K1.it.mono (fun _ e _ => e.elim)).trans KF⟩⟩
theorem count_any (w : World) {v t f s l : Int} {dq : Option Addr} {n dc : Nat} (ht0 : 0 ≤ t) (ht : t ≤ 3) (hc : TapC w p dp N) (hN : N + n + 1 ≤ 1152921504606846976) :
    Calls Tryz.prog 32 #[ptr p, frm v t f s l (.slice dq n dc)] w fun e w' => e = .returned (.tuple #[]) ∧ Aside (TapC w' p dp (N + n + 1) ∧ Keeps (fun k => k = p) w w') := by
  obtain ⟨n0, n1, n2, n3, pl, c, b⟩ := hc
  have h : t = 0 ∨ t = 1 ∨ t = 2 ∨ t = 3 := by omega
  rcases h with rfl | rfl | rfl | rfl
  · exact count_t0 w c b hN
  · exact count_t1 w c b hN
  · exact count_t2 w c b hN
  · exact count_t3 w c b hN
end
end Go.Proofs.YtbbldkldgjmmgaaGreatDoor
