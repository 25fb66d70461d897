import Derived.Test.YtnohcbdnhpaafaaGreatDoorSnA
import Derived.Deep.RegionWith
import Derived.BigQuiet
import Derived.Test.YtnohcbdnhpaafaaGreatDoorRlx
import Derived.Test.YtnohcbdnhpaafaaGreatDoorSdx
import Derived.Test.YtnohcbdnhpaafaaGreatDoorSpx
import Derived.Test.YtnohcbdnhpaafaaGreatDoorLists
import Derived.Deep.RegionHeldLaw
import Derived.Deep.RegionHeld3
import Derived.Test.YtnohcbdnhpaafaaGreatDoorOpx
import Derived.Deep.DeepCutAuto
/-
  A region that draws and whose callees only make memory: walked over the family of worlds that keep all old blocks. Of whatever program.
-/
namespace Go.Proofs.YtnohcbdnhpaafaaGreatDoor
open Go.RowKit

theorem wp_region_quietF {P : Program} {κ : Type} (F : κ → World) {id : Nat} {Q : Exit → Act → World → Prop} {a : Act} {w : World} {l : List Oper} (hm : P.follows .mixedOrders = true) (hB : Region.lexB .any l.toArray = true) (n0 : κ) (h0 : F n0 = w.drew)
    (h : wpQuiet P l.toArray (fun w' => ∃ n, w' = F n) (fun a' => ∀ w', (∃ n, w' = F n) → Q .normal a' w') l a) : (Code.region id l.toArray true).wp P Q a w :=
  wp_region_quiet (C := fun w' => ∃ n, w' = F n) hm hB ⟨n0, h0.symm⟩ (by simpa using h)
/-- the worlds behind quiet calls -/
structure KeW (w1 : World) where
  W : World
  ok : Keeps Nowhere w1 W
theorem KeW.cell {w1 : World} {a : Addr} {u : Value} (h : w1.cell? a = some u) (n : KeW w1) : n.W.cell? a = some u := by
  rw [World.cell?_of_block (n.ok.block a.block (World.block_lt_of_cell? w1 _ h) (fun x => x))]
  exact h
theorem KeW.call {P : Program} {f : FuncId} {args : Array Value} {w1 : World} {v : Value} (h : ∀ W, Keeps Nowhere w1 W → Calls P f args W fun e w' => e = .returned v ∧ Aside (Keeps Nowhere W w')) (s : KeW w1) : Calls P f args s.W fun e w' => e = .returned v ∧ ∃ m : KeW w1, w' = m.W := by
  refine (h s.W s.ok).mono ?_
  rintro e w' ⟨rfl, k⟩
  exact ⟨rfl, ⟨w', s.ok.trans k.it⟩, rfl⟩
end Go.Proofs.YtnohcbdnhpaafaaGreatDoor

/-
  the document's SameTickets
-/
namespace Go.Proofs.YtnohcbdnhpaafaaGreatDoor
open Go.RowKit

variable {w w' : World}

theorem same_tks (a b : Value) (L : List Tk) (ha : RdT w a L) (hb : RdT w b L) : Calls Tryz.prog 31 #[a, b] w fun e w' => e = .returned (.bool true) ∧ Aside (Keeps Nowhere w w') := by
  obtain ⟨qa, ca, rfl, hla, hma, ha⟩ := ha.at
  obtain ⟨qb, cb, rfl, hlb, hmb, hb⟩ := hb.at
  obtain ⟨N, hN⟩ : ∃ N, N = L.length := ⟨_, rfl⟩
  rw [← hN] at hla hlb ⊢
  have HN := Aside.mk hN
  have HA := Aside.mk ha
  have HB := Aside.mk hb
  have hn1 : (N : Int) ≤ 9223372036854775807 := by unfold maxLen at hma; omega
  clear hN ha hb hma hmb
  go_enter Tryz.func31, Tryz.ntmps31
  go_wp2_with fail
  go_loopw [5] (fun i wr => ∃ j : Nat, i = .int .i64 j ∧ j ≤ N ∧ Aside (Keeps Nowhere w wr)) (fun i _ => N - (intOf i).toNat)
  case atStart => exact ⟨0, rfl, Nat.zero_le _, ⟨Keeps.refl _ _⟩⟩
  case round =>
    obtain ⟨j, rfl, hj, hk⟩ := hrel
    rcases Nat.eq_or_lt_of_le hj with rfl | hlt
    · go_wp2
      go_ret
      exact ⟨rfl, hk⟩
    · obtain ⟨t, ht⟩ : ∃ t, L[j]? = some t := ⟨_, List.getElem?_eq_getElem (by rw [← HN.it]; exact hlt)⟩
      obtain ⟨g, o, rfl, a0, a1, a2⟩ := HA.it j t ht
      obtain ⟨g2, o2, rfl, b0, b1, b2⟩ := HB.it j t ht
      have ev : ∀ {p v}, w.cell? p = some v → wr.cell? p = some v := fun {p v} h => by rw [World.cell?_of_block (hk.it.block _ (World.block_lt_of_cell? w _ h) (fun x => x))]; exact h
      have c0 := ev a0
      have c1 := ev a1
      have c2 := ev a2
      have d0 := ev b0
      have d1 := ev b1
      have d2 := ev b2
      have EQ := fun w => tk_neq w t.k t.k t.s t.s t.v t.v
      simp only [and_self, decide_true, Bool.not_true] at EQ
      have l1 : (j : Int) < N := by omega
      have l2 : (0 : Int) ≤ j := by omega
      clear a0 a1 a2 b0 b1 b2 ht ev
      go_wp2_with fail
      go_region
      go_wp2
      go_roundw
      case rel => exact ⟨j + 1, by go_num, by omega, ⟨hk.it.drew⟩⟩
      case measure => simp [intOf]; omega

end Go.Proofs.YtnohcbdnhpaafaaGreatDoor

/-
  SchedPlays: the document's Same; looks
-/
namespace Go.Proofs.YtnohcbdnhpaafaaGreatDoor
open Go.RowKit

variable {A : Nat → Addr} {w w' w0 W : World} {own own' : Nat → Nat} {s m : Nat} {ks : List Nat} {L : List Tk} {v vt vu x0 x1 y : Value} {b r : Nat} {I : Nat → Prop}

theorem same_fr (p t f i l : Int) (qa qb : Option Addr) (na nb ca cb : Nat) (d : List Int) (ha : Holds .u8 w (.slice qa na ca) d) (hb : Holds .u8 w (.slice qb nb cb) d) :
    Calls Tryz.prog 27 #[.agg #[.int .u8 p, .int .u8 t, .int .u16 f, .int .u32 i, .int .u32 l, .slice qa na ca], .agg #[.int .u8 p, .int .u8 t, .int .u16 f, .int .u32 i, .int .u32 l, .slice qb nb cb]] w fun e w' => e = .returned (.bool true) ∧ Aside (Keeps Nowhere w w') := by
  obtain ⟨w1, hw1⟩ : ∃ w1, w1 = w.alloc (.cells #[.int .u8 p, .int .u8 t, .int .u16 f, .int .u32 i, .int .u32 l, .slice qa na ca] 47) := ⟨_, rfl⟩
  obtain ⟨w2, hw2⟩ : ∃ w2, w2 = w1.alloc (.cells #[.int .u8 p, .int .u8 t, .int .u16 f, .int .u32 i, .int .u32 l, .slice qb nb cb] 47) := ⟨_, rfl⟩
  have k1 : Keeps Nowhere w w1 := by rw [hw1]; exact (Keeps.refl _ _).alloc _
  have k2 : Keeps Nowhere w1 w2 := by rw [hw2]; exact (Keeps.refl _ _).alloc _
  have c1 : Cells w2 w.heap.size 47 [.int .u8 p, .int .u8 t, .int .u16 f, .int .u32 i, .int .u32 l, .slice qa na ca] := by
    have : Cells w1 w.heap.size 47 [.int .u8 p, .int .u8 t, .int .u16 f, .int .u32 i, .int .u32 l, .slice qa na ca] := by rw [hw1]; exact Cells.new w _ _
    exact this.later k2 (fun x => x)
  have c2 : Cells w2 w1.heap.size 47 [.int .u8 p, .int .u8 t, .int .u16 f, .int .u32 i, .int .u32 l, .slice qb nb cb] := by rw [hw2]; exact Cells.new w1 _ _
  have e1 : w1.heap.size = w.heap.size + 1 := by rw [hw1]; simp
  rw [e1] at c2
  have K := Aside.mk (k1.trans k2)
  have s1 := run_bytesStr (P := Tryz.prog) w2 45 9 5 (.slice qa na ca) d Tryz.underlying45 Tryz.underlying5 Tryz.underlying9 (ha.later K.it.bel)
  have s2 := run_bytesStr (P := Tryz.prog) w2 45 9 5 (.slice qb nb cb) d Tryz.underlying45 Tryz.underlying5 Tryz.underlying9 (hb.later K.it.bel)
  have E2 := fun w => hd_eql w p p t t f f i i l l
  simp only [and_self, decide_true] at E2
  obtain ⟨ga, hga⟩ : ∃ g, Aside (g = w.heap.size) := ⟨_, ⟨rfl⟩⟩
  obtain ⟨gb, hgb⟩ : ∃ g, Aside (g = w.heap.size + 1) := ⟨_, ⟨rfl⟩⟩
  rw [← hga.it] at c1
  rw [← hgb.it] at c2
  have a0 := c1.cell 0
  have a1 := c1.cell 1
  have a2 := c1.cell 2
  have a3 := c1.cell 3
  have a4 := c1.cell 4
  have a5 := c1.cell 5
  have b0 := c2.cell 0
  have b1 := c2.cell 1
  have b2 := c2.cell 2
  have b3 := c2.cell 3
  have b4 := c2.cell 4
  have b5 := c2.cell 5
  simp only [List.getElem?_cons_zero, List.getElem?_cons_succ] at a0 a1 a2 a3 a4 a5 b0 b1 b2 b3 b4 b5
  clear ha hb k1 k2 c1 c2 e1
  go_enter Tryz.func27, Tryz.ntmps27
  go_upto_region 1 with fail
  rw [← hw1, ← hw2, ← hgb.it, ← hga.it]
  clear hw1 hw2
  generalize strOf d = sd at s1 s2
  go_wp2
  go_ret
  exact ⟨by simp, K⟩
end Go.Proofs.YtnohcbdnhpaafaaGreatDoor

/-
  SchedPlays: Count; looks
-/
namespace Go.Proofs.YtnohcbdnhpaafaaGreatDoor
open Go.RowKit

variable {A : Nat → Addr} {w w' w0 W : World} {own own' : Nat → Nat} {s m : Nat} {ks : List Nat} {L : List Tk} {v vt vu x0 x1 y : Value} {b r : Nat} {I : Nat → Prop}

theorem count_sc (h : Sc A w0 own w s L m ks) (hm : m ≤ 8796093022208) (kind : Int) :
    Calls Tryz.prog 29 #[ptr s, .int .i64 kind] w fun e w' => e = .returned (.int .i64 (cntK kind L)) ∧ Aside (Keeps Nowhere w w') := by
  obtain ⟨p, r, h⟩ := h
  have P := Aside.mk (parts_at h)
  have C := Aside.mk (fun W (k : Keeps Nowhere w W) => countX (h.quiet k).ln hm kind)
  clear h
  have F0 := sc_f0 (some ⟨p, 0, none⟩) (some ⟨r, 0, none⟩)
  have F1 := sc_f1 (some ⟨p, 0, none⟩) (some ⟨r, 0, none⟩)
  go_enter Tryz.func29, Tryz.ntmps29
  go_wp2_with (first
    | (go_at_call 34; refine P.it.mono ?_; rintro e w1 ⟨rfl, k1⟩)
    | (go_at_call 60; refine (C.it w1 k1.it).mono ?_; rintro e w2 ⟨rfl, k2⟩))
  go_ret
  exact ⟨rfl, ⟨k1.it.trans k2.it⟩⟩
/-- within looks -/
structure Lk (A : Nat → Addr) (w0 : World) (own : Nat → Nat) (s : Nat) (L : List Tk) (m : Nat) (ks : List Nat) (w : World) (b : Nat) (vt vu : Value) (W : World) : Prop where
  sc : Sc A w0 own W s L m ks
  c : Cells W b 29 [vt, vu]
  t : RdT W vt L
  u : RdW W vu ks
  k : Keeps Nowhere w W
theorem Lk.quiet (h : Aside (Lk A w0 own s L m ks w b vt vu W)) (k : Keeps Nowhere W w') : Aside (Lk A w0 own s L m ks w b vt vu w') := ⟨⟨h.it.sc.quiet k, h.it.c.later k (fun x => x), h.it.t.quiet k, h.it.u.quiet k, h.it.k.trans k⟩⟩
theorem Lk.cs (h : Aside (Lk A w0 own s L m ks w b vt vu W)) : W.cell? ⟨b, 0, none⟩ = some vt ∧ W.cell? ⟨b, 1, none⟩ = some vu := ⟨h.it.c.cell 0, h.it.c.cell 1⟩
theorem lk_tickets (hm : m ≤ 8796093022208) (h : Aside (Lk A w0 own s L m ks w b vt vu W)) : Calls Tryz.prog 32 #[ptr s] W fun e w' => ∃ a c, e = .returned (.slice a L.length c) ∧ Aside (RdT w' (.slice a L.length c) L) ∧ Aside (Lk A w0 own s L m ks w b vt vu w') :=
  (tickets_sl h.it.sc hm).mono (by rintro e w' ⟨a, c, rfl, o, k⟩; exact ⟨a, c, rfl, ⟨owns_readsK o.it⟩, Lk.quiet h k.it⟩)
theorem lk_turns (hl : ks.length * 4 ≤ 140737488355328) (h : Aside (Lk A w0 own s L m ks w b vt vu W)) : Calls Tryz.prog 12 #[ptr s] W fun e w' => ∃ a c, e = .returned (.slice a ks.length c) ∧ Aside (RdW w' (.slice a ks.length c) ks) ∧ Aside (Lk A w0 own s L m ks w b vt vu w') :=
  (turns_sl h.it.sc hl).mono (by rintro e w' ⟨a, c, rfl, o, k⟩; exact ⟨a, c, rfl, ⟨owns_rdW o.it⟩, Lk.quiet h k.it⟩)
theorem lk_same (h : Aside (Lk A w0 own s L m ks w b vt vu W)) {x : Value} (hx : Aside (RdT W x L)) : Calls Tryz.prog 31 #[x, vt] W fun e w' => e = .returned (.bool true) ∧ Aside (Lk A w0 own s L m ks w b vt vu w') :=
  (same_tks x vt L hx.it h.it.t).mono (by rintro e w' ⟨rfl, k⟩; exact ⟨rfl, Lk.quiet h k.it⟩)
theorem lk_sameU (h : Aside (Lk A w0 own s L m ks w b vt vu W)) {x : Value} (hx : Aside (RdW W x ks)) : Calls Tryz.prog 33 #[x, vu] W fun e w' => e = .returned (.bool true) ∧ Aside (Lk A w0 own s L m ks w b vt vu w') :=
  (same_nums x vu ks hx.it.rdU h.it.u.rdU).mono (by rintro e w' ⟨rfl, k⟩; exact ⟨rfl, Lk.quiet h k.it⟩)
set_option maxRecDepth 20000 in
set_option maxHeartbeats 4000000 in
theorem looks_ok (h : Sc A w0 own w s L m ks) (hm : m ≤ 8796093022208) (hl : ks.length * 4 ≤ 140737488355328) (ht : RdT w vt L) (hu : RdW w vu ks) (kind : Int) :
    Calls Tryz.prog 7 #[ptr s, .agg #[vt, vu], .int .i64 kind] w fun e w' => e = .returned (.bool true) ∧ Aside (Keeps Nowhere w w') := by
  obtain ⟨ta, tc, rfl, _, _, _⟩ := ht.at
  obtain ⟨ua, uc, rfl, _, _, _, _⟩ := hu.at
  obtain ⟨tn, htn⟩ : ∃ tn, tn = L.length := ⟨_, rfl⟩
  obtain ⟨un, hun⟩ : ∃ un, un = ks.length := ⟨_, rfl⟩
  rw [← htn] at ht ⊢
  rw [← hun] at hu ⊢
  obtain ⟨w1, hw1⟩ : ∃ w1, w1 = w.alloc (.cells #[.slice ta tn tc, .slice ua un uc] 29) := ⟨_, rfl⟩
  have k1 : Keeps Nowhere w w1 := by rw [hw1]; exact (Keeps.refl _ _).alloc _
  have P1 : Aside (Lk A w0 own s L m ks w w.heap.size (.slice ta tn tc) (.slice ua un uc) w1) := ⟨⟨h.quiet k1, by rw [hw1]; exact Cells.new w _ _, ht.quiet k1, hu.quiet k1, k1⟩⟩
  clear h ht hu k1 htn hun
  go_enter Tryz.func7, Tryz.ntmps7
  go_upto_region 1 with fail
  rw [← hw1]
  clear hw1
  obtain ⟨b, hb⟩ : ∃ b, Aside (b = w.heap.size) := ⟨_, ⟨rfl⟩⟩
  rw [← hb.it] at P1 ⊢
  have CN := Aside.mk (KeW.call (w1 := w1) (fun W kk => count_sc (P1.it.sc.quiet kk) hm kind))
  have CR := Aside.mk (KeW.call (w1 := w1) (fun W kk => countR (w := W) (.slice ta tn tc) L kind (P1.it.t.quiet kk)))
  obtain ⟨d0, d1⟩ := Lk.cs P1
  have c0 := fun n => KeW.cell d0 n
  have c1 := fun n => KeW.cell d1 n
  clear d0 d1
  haveI : Nonempty (KeW w1) := ⟨⟨w1, Keeps.refl _ _⟩⟩
  generalize (cntK kind L : Nat) = cn at CN CR
  refine wp_region_quietF (KeW.W (w1 := w1)) (by kernel_rfl) (by kernel_rfl) ⟨w1.drew, (Keeps.refl _ _).drew⟩ rfl ?_
  repeat (go_big_quiet_step (first | (go_at_call 29; exact CN.it _) | (go_at_call 30; exact CR.it _)))
  refine wpQuiet_nil ?_
  rintro _ ⟨n2, rfl⟩
  have P2 := Lk.quiet P1 n2.ok
  generalize n2.W = w2 at *
  clear c0 c1 CN CR P1
  go_upto_region 3 with fail
  obtain ⟨d0, d1⟩ := Lk.cs P2
  have P2d := Lk.quiet P2 (Keeps.refl _ _).drew
  go_region_held_law (fun w' => w'.cell? ⟨b, 0, none⟩ = some (.slice ta tn tc) ∧ w'.cell? ⟨b, 1, none⟩ = some (.slice ua un uc)) (exact Lk.cs (A := A) (w0 := w0) (own := own) (s := s) (L := L) (m := m) (ks := ks) (w := w) (by with_reducible assumption)) (first
    | (go_at_call 32; with_reducible refine (lk_tickets hm (by with_reducible assumption)).mono ?_; rintro e w5 ⟨qa, ca, rfl, R5, P5⟩)
    | (go_at_call 12; with_reducible refine (lk_turns hl (by with_reducible assumption)).mono ?_; rintro e w7 ⟨qb, cb, rfl, R7, P7⟩)
    | (go_at_call 31; with_reducible refine (lk_same (by with_reducible assumption) (by with_reducible assumption)).mono ?_; rintro e w6 ⟨rfl, P6⟩)
    | (go_at_call 33; with_reducible refine (lk_sameU (by with_reducible assumption) (by with_reducible assumption)).mono ?_; rintro e w8 ⟨rfl, P8⟩)
    | fail)
  all_goals (go_wp2; go_ret; exact ⟨rfl, ⟨P8.it.k⟩⟩)
end Go.Proofs.YtnohcbdnhpaafaaGreatDoor

/-
  SchedPlays: a step's world
-/
namespace Go.Proofs.YtnohcbdnhpaafaaGreatDoor
open Go.RowKit

variable {A : Nat → Addr} {w w' w0 W : World} {own own' : Nat → Nat} {s m m' : Nat} {ks ks' k1 : List Nat} {L L' L1 : List Tk} {v vt vu x0 x1 y : Value} {b r b5 b6 bn : Nat} {I : Nat → Prop}

/-- the document's list lies in a block of 9's -/
def O9 (own : Nat → Nat) (w : World) (v : Value) : Prop := ∀ b, v.ownBlock = some b → own b = 9 ∧ b < w.heap.size
theorem O9.sn (h : O9 own w v) (q : Sn I own w own' w') : O9 own' w' v := fun b hb => ⟨(q.agree b (h b hb).2).trans (h b hb).1, Nat.lt_of_lt_of_le (h b hb).2 q.keeps.size⟩
theorem reads_sn {k n : Nat} {xs : List Value} (h : ReadsK k w v n xs) (o : O9 own w v) (q : Sn I own w own' w') (h9 : ¬ I 9) : ReadsK k w' v n xs := ReadsK.later h q.keeps (fun b hb e => h9 (by rw [(o b hb).1] at e; exact e))
/-- what the document answers is 9's -/
theorem O9.new {v' : Value} (h : O9 own w v) (hn : ∀ b, v'.ownBlock = some b → v.ownBlock = some b ∨ (w.heap.size ≤ b ∧ b < w'.heap.size)) (k : Keeps Nowhere w w') : O9 (give own w.heap.size 9) w' v' := fun b hb => by
  rcases hn b hb with h1 | ⟨h1, h2⟩
  · exact ⟨(give_old (h b h1).2).trans (h b h1).1, Nat.lt_of_lt_of_le (h b h1).2 k.size⟩
  · exact ⟨give_new h1, h2⟩
/-- boxes of a caller, that stay -/
class Xs where
  l : List (Nat × TypeId × List Value)
variable [Xs]
def X9 (own : Nat → Nat) (w : World) : Prop := ∀ p ∈ Xs.l, CellsO own 9 w p.1 p.2.1 p.2.2
theorem X9.sn (h : X9 own w) (q : Sn I own w own' w') (h9 : ¬ I 9) : X9 own' w' := fun p hp => (h p hp).sn q h9
theorem X9.quiet (h : X9 own w) (k : Keeps Nowhere w w') : X9 own w' := h.sn (I := fun _ => False) (Sn.same k) (fun x => x)
/-- the scheduler, and the document's lists -/
structure Sp (A : Nat → Addr) (w0 : World) (own : Nat → Nat) (w : World) (s : Nat) (L : List Tk) (m : Nat) (ks : List Nat) (vt vu : Value) : Prop where
  sc : Sc A w0 own w s L m ks
  t : RdT w vt L
  ot : O9 own w vt
  u : RdW w vu ks
  ou : O9 own w vu
  x : X9 own w
/-- within a step: the scheduler has L, ks; the document's lists are L1, k1 -/
structure Sr (A : Nat → Addr) (w0 : World) (own : Nat → Nat) (W : World) (s : Nat) (L : List Tk) (m : Nat) (ks : List Nat) (b5 b6 bn : Nat) (cs : List Value) (vt vu : Value) (L1 : List Tk) (k1 : List Nat) : Prop where
  sc : Sc A w0 own W s L m ks
  t : RdT W vt L1
  ot : O9 own W vt
  u : RdW W vu k1
  ou : O9 own W vu
  c5 : CellsO own 10 W b5 38 cs
  c6 : CellsO own 10 W b6 29 [.slice none 0 0, .slice none 0 0]
  cn : CellsO own 10 W bn 29 [vt, vu]
  ne : bn ≠ b6
  x : X9 own W
section
variable {cs : List Value}
theorem Sr.sn (h : Aside (Sr A w0 own W s L m ks b5 b6 bn cs vt vu L1 k1)) (q : Sn I own W own' w') (h9 : ¬ I 9) (h10 : ¬ I 10) (hs : Sc A w0 own' w' s L' m' ks') : Aside (Sr A w0 own' w' s L' m' ks' b5 b6 bn cs vt vu L1 k1) :=
  ⟨⟨hs, reads_sn h.it.t h.it.ot q h9, h.it.ot.sn q, reads_sn h.it.u h.it.ou q h9, h.it.ou.sn q, h.it.c5.sn q h10, h.it.c6.sn q h10, h.it.cn.sn q h10, h.it.ne, h.it.x.sn q h9⟩⟩
theorem Sr.quiet (h : Aside (Sr A w0 own W s L m ks b5 b6 bn cs vt vu L1 k1)) (k : Keeps Nowhere W w') : Aside (Sr A w0 own w' s L m ks b5 b6 bn cs vt vu L1 k1) := Sr.sn (I := fun _ => False) h (Sn.same k) (fun x => x) (fun x => x) (h.it.sc.quiet k)
theorem Sr.cn2 (h : Aside (Sr A w0 own W s L m ks b5 b6 bn cs vt vu L1 k1)) : W.cell? ⟨bn, 0, none⟩ = some vt ∧ W.cell? ⟨bn, 1, none⟩ = some vu := ⟨h.it.cn.1.cell 0, h.it.cn.1.cell 1⟩
theorem Sr.c62 (h : Aside (Sr A w0 own W s L m ks b5 b6 bn cs vt vu L1 k1)) : W.cell? ⟨b6, 0, none⟩ = some (.slice none 0 0) ∧ W.cell? ⟨b6, 1, none⟩ = some (.slice none 0 0) ∧ W.frozen? ⟨b6, 0, none⟩ = false ∧ W.frozen? ⟨b6, 1, none⟩ = false := ⟨h.it.c6.1.cell 0, h.it.c6.1.cell 1, h.it.c6.1.frozen 0, h.it.c6.1.frozen 1⟩
/-- the document's function was called: its lists are new, in a box of their own -/
theorem Sr.doc {vt' vu' : Value} {L2 : List Tk} {k2 : List Nat} (h : Aside (Sr A w0 own W s L m ks b5 b6 bn cs vt vu L1 k1)) (k : Keeps Nowhere W w') (ht : TN W w' vt vt' L2) (hu : UN W w' vu vu' k2) :
    Aside (Sr A w0 (give (give own W.heap.size 9) w'.heap.size 10) (w'.alloc (.cells #[vt', vu'] 29)) s L m ks b5 b6 w'.heap.size cs vt' vu' L2 k2) := by
  have q1 : Sn (fun _ => False) own W (give own W.heap.size 9) w' := Sn.quiet k 9
  have q2 : Sn (fun _ => False) (give own W.heap.size 9) w' (give (give own W.heap.size 9) w'.heap.size 10) (w'.alloc (.cells #[vt', vu'] 29)) := Sn.quiet ((Keeps.refl _ _).alloc _) 10
  have q : Sn (fun _ => False) own W (give (give own W.heap.size 9) w'.heap.size 10) (w'.alloc (.cells #[vt', vu'] 29)) := q1.trans q2
  have o1 := h.it.ot.new ht.2 k
  have o2 := h.it.ou.new hu.2 k
  refine ⟨⟨h.it.sc.sn q (fun x => x) (fun _ _ x => x), reads_sn ht.1 o1 q2 (fun x => x), o1.sn q2, reads_sn hu.1 o2 q2 (fun x => x), o2.sn q2, h.it.c5.sn q (fun x => x), h.it.c6.sn q (fun x => x), ⟨Cells.new _ _ _, give_new (Nat.le_refl _)⟩, fun e => ?_, h.it.x.sn q (fun x => x)⟩⟩
  have := h.it.c6.1.lt
  have := k.size
  omega
/-- the answer is laid out -/
theorem Sr.fin (h : Aside (Sr A w0 own W s L m ks b5 b6 bn cs vt vu L ks)) :
    let V := (W.setCell ⟨b6, 0, none⟩ vt).setCell ⟨b6, 1, none⟩ vu
    V.cell? ⟨b6, 0, none⟩ = some vt ∧ V.cell? ⟨b6, 1, none⟩ = some vu ∧ Aside (Sp A w0 own V s L m ks vt vu) := by
  intro V
  have q : Sn (fun k => k = 10) own W own V := ⟨fun _ _ => rfl, ((Keeps.refl _ _).setCell _ _ (fun _ => h.it.c6.2)).setCell _ _ (fun _ => h.it.c6.2)⟩
  have c := (h.it.c6.1.setCell 0 vt).setCell 1 vu
  exact ⟨c.cell 0, c.cell 1, ⟨h.it.sc.sn q (by decide) (fun k hk e => by have := hk.2; omega), reads_sn h.it.t h.it.ot q (by decide), h.it.ot.sn q, reads_sn h.it.u h.it.ou q (by decide), h.it.ou.sn q, h.it.x.sn q (by decide)⟩⟩
theorem Sr.cn2S {u0 u1 : Value} (h : Aside (Sr A w0 own W s L m ks b5 b6 bn cs vt vu L1 k1)) : (fun w' : World => w'.cell? ⟨bn, 0, none⟩ = some vt ∧ w'.cell? ⟨bn, 1, none⟩ = some vu) ((W.setCell ⟨b6, 0, none⟩ u0).setCell ⟨b6, 1, none⟩ u1) := by
  have c := (h.it.cn.1.later (Bx2.outK W b6 u0 u1) h.it.ne)
  exact ⟨c.cell 0, c.cell 1⟩
/-- the start of a step -/
theorem Sr.start (h : Sp A w0 own w s L m ks vt vu) (cs : List Value) :
    Aside (Sr A w0 (give own w.heap.size 10) (((w.alloc (.cells #[vt, vu] 29)).alloc (.cells cs.toArray 38)).alloc (.cells #[.slice none 0 0, .slice none 0 0] 29)) s L m ks (w.heap.size + 1) (w.heap.size + 1 + 1) w.heap.size cs vt vu L ks) := by
  have k : Keeps Nowhere w (((w.alloc (.cells #[vt, vu] 29)).alloc (.cells cs.toArray 38)).alloc (.cells #[.slice none 0 0, .slice none 0 0] 29)) := (((Keeps.refl _ _).alloc _).alloc _).alloc _
  have q : Sn (fun _ => False) own w (give own w.heap.size 10) (((w.alloc (.cells #[vt, vu] 29)).alloc (.cells cs.toArray 38)).alloc (.cells #[.slice none 0 0, .slice none 0 0] 29)) := Sn.quiet k 10
  have c4 := (Cells.new w 29 [vt, vu]).later (((Keeps.refl Nowhere _).alloc (.cells cs.toArray 38)).alloc (.cells #[.slice none 0 0, .slice none 0 0] 29)) (fun x => x)
  have c5 := (Cells.new (w.alloc (.cells #[vt, vu] 29)) 38 cs).later ((Keeps.refl Nowhere _).alloc (.cells #[.slice none 0 0, .slice none 0 0] 29)) (fun x => x)
  have c6 := Cells.new ((w.alloc (.cells #[vt, vu] 29)).alloc (.cells cs.toArray 38)) 29 [.slice none 0 0, .slice none 0 0]
  rw [World.size_alloc] at c5
  rw [World.size_alloc, World.size_alloc] at c6
  exact ⟨⟨h.sc.sn q (fun x => x) (fun _ _ x => x), h.t.quiet k, h.ot.sn q, h.u.quiet k, h.ou.sn q, ⟨c5, give_new (by omega)⟩, ⟨c6, give_new (by omega)⟩, ⟨c4, give_new (Nat.le_refl _)⟩, by omega, h.x.sn q (fun x => x)⟩⟩
theorem Sr.s5 {a0 a1 a2 a3 a4 a5 a6 : Value} (h : Aside (Sr A w0 own W s L m ks b5 b6 bn [a0, a1, a2, a3, a4, a5, a6] vt vu L1 k1)) : W.cell? ⟨bn, 0, none⟩ = some vt ∧ W.cell? ⟨bn, 1, none⟩ = some vu ∧ W.cell? ⟨b5, 1, none⟩ = some a1 ∧ W.cell? ⟨b5, 2, none⟩ = some a2 ∧ W.cell? ⟨b5, 4, none⟩ = some a4 := ⟨h.it.cn.1.cell 0, h.it.cn.1.cell 1, h.it.c5.1.cell 1, h.it.c5.1.cell 2, h.it.c5.1.cell 4⟩
theorem Sr.s5S {u0 u1 a0 a1 a2 a3 a4 a5 a6 : Value} (h : Aside (Sr A w0 own W s L m ks b5 b6 bn [a0, a1, a2, a3, a4, a5, a6] vt vu L1 k1)) : (fun w' : World => w'.cell? ⟨bn, 0, none⟩ = some vt ∧ w'.cell? ⟨bn, 1, none⟩ = some vu ∧ w'.cell? ⟨b5, 1, none⟩ = some a1 ∧ w'.cell? ⟨b5, 2, none⟩ = some a2 ∧ w'.cell? ⟨b5, 4, none⟩ = some a4) ((W.setCell ⟨b6, 0, none⟩ u0).setCell ⟨b6, 1, none⟩ u1) := by
  have c := (h.it.cn.1.later (Bx2.outK W b6 u0 u1) h.it.ne)
  have d := (h.it.c5.1.later (Bx2.outK W b6 u0 u1) (Ne.symm (cells_ne h.it.c6.1 h.it.c5.1 (by decide))))
  exact ⟨c.cell 0, c.cell 1, d.cell 1, d.cell 2, d.cell 4⟩
omit [Xs] in
theorem in6_9 : ¬ In6 9 := fun h => by have := h.2; omega
omit [Xs] in
theorem in6_10 : ¬ In6 10 := fun h => by have := h.2; omega
end
end Go.Proofs.YtnohcbdnhpaafaaGreatDoor

/-
  SchedPlays: the steps Withdraw, Ready, Rest, Forget
-/
namespace Go.Proofs.YtnohcbdnhpaafaaGreatDoor
open Go.RowKit

variable {A : Nat → Addr} {w w' w0 W : World} {own own' : Nat → Nat} {s m m' : Nat} {ks ks' k1 : List Nat} {L L' L1 : List Tk} {v vt vu x0 x1 y : Value} {b r b5 b6 bn : Nat} {I : Nat → Prop} {cs : List Value}
variable [Xs]

omit [Xs] in
theorem TN.same (h : RdT w v L) (k : Keeps Nowhere w w') : TN w w' v v L := ⟨h.quiet k, fun _ hb => .inl hb⟩
omit [Xs] in
theorem UN.same (h : RdW w v ks) (k : Keeps Nowhere w w') : UN w w' v v ks := ⟨h.quiet k, fun _ hb => .inl hb⟩
omit [Xs] in
theorem addL_len (ks : List Nat) (k : Nat) : (addL ks k).length ≤ ks.length + 1 := by unfold addL; split <;> simp
omit [Xs] in
theorem remL_len (ks : List Nat) (k : Nat) : (remL ks k).length ≤ ks.length + 1 := by unfold remL; have := List.length_erase_le (a := k) (l := ks); omega
theorem sr_withdraw (hm : m ≤ 8796093022208) (kind : Int) (id : Nat) (hid : id ≤ 4294967295) (h : Aside (Sr A w0 own W s L m ks b5 b6 bn cs vt vu L1 k1)) : Calls Tryz.prog 19 #[ptr s, .int .i64 kind, .int .u32 id] W fun e w' => ∃ own', e = .returned (.bool (L.any (isT kind id))) ∧ Aside (Sr A w0 own' w' s (L.eraseP (isT kind id)) m ks b5 b6 bn cs vt vu L1 k1) :=
  (withdraw_sc h.it.sc hm kind id hid).mono (by rintro e w' ⟨own', rfl, hs, q⟩; exact ⟨own', rfl, Sr.sn h q.it in6_9 in6_10 hs.it⟩)
theorem sr_ready (id : Nat) (hid : id ≤ 4294967295) (hl : ks.length < maxLen) (h : Aside (Sr A w0 own W s L m ks b5 b6 bn cs vt vu L1 k1)) : Calls Tryz.prog 8 #[ptr s, .int .u32 id] W fun e w' => ∃ own', e = .returned (.bool (addT ks id)) ∧ Aside (Sr A w0 own' w' s L m (addL ks id) b5 b6 bn cs vt vu L1 k1) :=
  (ready_sc h.it.sc id hid hl).mono (by rintro e w' ⟨own', rfl, hs, q⟩; exact ⟨own', rfl, Sr.sn h q.it in6_9 in6_10 hs.it⟩)
theorem sr_rest (id : Nat) (hid : id ≤ 4294967295) (h : Aside (Sr A w0 own W s L m ks b5 b6 bn cs vt vu L1 k1)) : Calls Tryz.prog 22 #[ptr s, .int .u32 id] W fun e w' => ∃ own', e = .returned (.bool (inT ks id)) ∧ Aside (Sr A w0 own' w' s L m (remL ks id) b5 b6 bn cs vt vu L1 k1) :=
  (rest_sc h.it.sc id hid).mono (by rintro e w' ⟨own', rfl, hs, q⟩; exact ⟨own', rfl, Sr.sn h q.it in6_9 in6_10 hs.it⟩)
theorem sr_forget (hm : m ≤ 8796093022208) (id : Nat) (hid : id ≤ 4294967295) (h : Aside (Sr A w0 own W s L m ks b5 b6 bn cs vt vu L1 k1)) : Calls Tryz.prog 24 #[ptr s, .int .u32 id] W fun e w' => ∃ own', e = .returned (.int .i64 (L.countP (fun t => decide (t.s = id)))) ∧ Aside (Sr A w0 own' w' s (L.filter (fun t => !decide (t.s = id))) m (remL ks id) b5 b6 bn cs vt vu L1 k1) :=
  (forget_sc h.it.sc hm id hid).mono (by rintro e w' ⟨own', rfl, hs, q⟩; exact ⟨own', rfl, Sr.sn h q.it in6_9 in6_10 hs.it⟩)

set_option maxRecDepth 20000 in
set_option maxHeartbeats 4000000 in
theorem step2 (h : Sp A w0 own w s L m ks vt vu) (t : Tk) (hts : t.s ≤ 4294967295) (id : Nat) (_hid : id ≤ 4294967295) (oa ma : Option Addr) (on oc mn mc : Nat) (hm : m < 8796093022208) (hl : ks.length * 4 + 4 ≤ 140737488355328) :
    Calls Tryz.prog 6 #[ptr s, .agg #[vt, vu], .agg #[.int .i64 2, .int .i64 t.k, .int .u32 t.s, .int .u32 t.v, .int .u32 id, .slice oa on oc, .slice ma mn mc]] w fun e w' => ∃ vt' vu' own' L' m' ks', e = .returned (.tuple #[.agg #[vt', vu'], .bool true]) ∧ Aside (Sp A w0 own' w' s L' m' ks' vt' vu') ∧ Aside (m' ≤ m + 1 ∧ ks'.length ≤ ks.length + 1) := by
  obtain ⟨ta, tc, hvt, _, _, _⟩ := h.t.at
  obtain ⟨ua, uc, hvu, _, _, _, _⟩ := h.u.at
  have hbd := h.sc.bound
  obtain ⟨tn, htn⟩ : ∃ tn, tn = L.length := ⟨_, rfl⟩
  obtain ⟨un, hun⟩ : ∃ un, un = ks.length := ⟨_, rfl⟩
  rw [← htn] at hvt
  rw [← hun] at hvu
  subst hvt hvu
  have P0 := Sr.start h [.int .i64 2, .int .i64 t.k, .int .u32 t.s, .int .u32 t.v, .int .u32 id, .slice oa on oc, .slice ma mn mc]
  obtain ⟨W0, hW0⟩ : ∃ W0, W0 = ((w.alloc (.cells #[.slice ta tn tc, .slice ua un uc] 29)).alloc (.cells #[.int .i64 2, .int .i64 t.k, .int .u32 t.s, .int .u32 t.v, .int .u32 id, .slice oa on oc, .slice ma mn mc] 38)).alloc (.cells #[.slice none 0 0, .slice none 0 0] 29) := ⟨_, rfl⟩
  rw [← hW0] at P0
  generalize give own w.heap.size 10 = own0 at P0
  have HTS := Aside.mk hts
  clear hts
  have DC := Aside.mk (refWithdraw (w := W0) t.k t.s ua un uc P0.it.t (by omega))
  have HB := Aside.mk (And.intro hbd (And.intro htn hun))
  clear h htn hun hbd
  go_enter Tryz.func6, Tryz.ntmps6
  go_upto_region 1 with fail
  rw [← hW0]
  clear hW0
  obtain ⟨b4, hb4⟩ : ∃ b, Aside (b = w.heap.size) := ⟨_, ⟨rfl⟩⟩
  obtain ⟨b5, hb5⟩ : ∃ b, Aside (b = w.heap.size + 1) := ⟨_, ⟨rfl⟩⟩
  obtain ⟨b6, hb6⟩ : ∃ b, Aside (b = w.heap.size + 1 + 1) := ⟨_, ⟨rfl⟩⟩
  rw [← hb6.it, ← hb5.it, ← hb4.it] at P0
  rw [show w.heap.size + 2 = b6 from hb6.it.symm, ← hb5.it, ← hb4.it]
  obtain ⟨d0, d1⟩ := Sr.cn2 P0
  have o0 := P0.it.c5.1.cell 0
  have o1 := P0.it.c5.1.cell 1
  have o2 := P0.it.c5.1.cell 2
  have o4 := P0.it.c5.1.cell 4
  simp only [List.getElem?_cons_zero, List.getElem?_cons_succ] at o0 o1 o2 o4
  go_upto_region 8 with (first | (go_at_call 18; refine DC.it.mono ?_; rintro e w1 ⟨v1, rfl, T1, kk⟩; obtain ⟨h0, h2, hv1, _, _, _⟩ := T1.it.1.at; generalize (L.eraseP (isT t.k t.s)).length = h1 at hv1; subst hv1) | fail)
  obtain ⟨w2, hw2⟩ : ∃ w2, w2 = w1.alloc (.cells #[.slice h0 h1 h2, .slice ua un uc] 29) := ⟨_, rfl⟩
  obtain ⟨own2, P2⟩ : ∃ own2, Aside (Sr A w0 own2 w2 s L m ks b5 b6 w1.heap.size [.int .i64 2, .int .i64 t.k, .int .u32 t.s, .int .u32 t.v, .int .u32 id, .slice oa on oc, .slice ma mn mc] (.slice h0 h1 h2) (.slice ua un uc) (L.eraseP (isT t.k t.s)) ks) := ⟨_, by rw [hw2]; exact Sr.doc P0 kk.it T1.it (UN.same P0.it.u kk.it)⟩
  rw [← hw2]
  obtain ⟨bn, hbn⟩ : ∃ bn, Aside (bn = w1.heap.size) := ⟨_, ⟨rfl⟩⟩
  rw [← hbn.it] at P2 ⊢
  clear hw2 hbn P0 d0 d1 o0 o1 o2 o4 DC kk
  obtain ⟨d0, d1⟩ := Sr.cn2 P2
  have o0 := P2.it.c5.1.cell 0
  have o1 := P2.it.c5.1.cell 1
  have o2 := P2.it.c5.1.cell 2
  have o4 := P2.it.c5.1.cell 4
  simp only [List.getElem?_cons_zero, List.getElem?_cons_succ] at o0 o1 o2 o4
  have P2d := Sr.quiet P2 (Keeps.refl _ _).drew
  have HM : m ≤ 8796093022208 := by omega
  have HL : ks.length < maxLen := by unfold maxLen; omega
  clear P2
  go_region_held3 (fun w' => w'.cell? ⟨bn, 0, none⟩ = some (.slice h0 h1 h2) ∧ w'.cell? ⟨bn, 1, none⟩ = some (.slice ua un uc) ∧ w'.cell? ⟨b5, 1, none⟩ = some (.int .i64 t.k) ∧ w'.cell? ⟨b5, 2, none⟩ = some (.int .u32 t.s) ∧ w'.cell? ⟨b5, 4, none⟩ = some (.int .u32 id)) (first | with_reducible exact Sr.s5 (by with_reducible assumption) | with_reducible exact Sr.s5S (by with_reducible assumption)) (first
    | (go_at_call 19; with_reducible refine (sr_withdraw HM t.k t.s HTS.it (by with_reducible assumption)).mono ?_; rintro e w5 ⟨own5, rfl, P5⟩; obtain ⟨f0, f1, f2, f3⟩ := Sr.c62 P5)
    | fail)
  all_goals
    obtain ⟨y0, y1, E⟩ := Sr.fin P5
    clear f0 f1 f2 f3
    generalize (w5.setCell ⟨b6, 0, none⟩ (.slice h0 h1 h2)).setCell ⟨b6, 1, none⟩ (.slice ua un uc) = V at y0 y1 E ⊢
    go_wp2
    refine bodyPost_ret (v := .tuple #[.agg #[.slice h0 h1 h2, .slice ua un uc], .bool true]) (by simp [results, Tryz.results6, go_sem, y0, y1]) rfl ?_
    exact ⟨_, _, own5, _, _, _, rfl, E, ⟨by omega, by omega⟩⟩

set_option maxRecDepth 20000 in
set_option maxHeartbeats 4000000 in
theorem step3 (h : Sp A w0 own w s L m ks vt vu) (t : Tk) (id : Nat) (hid : id ≤ 4294967295) (oa ma : Option Addr) (on oc mn mc : Nat) (hm : m < 8796093022208) (hl : ks.length * 4 + 4 ≤ 140737488355328) :
    Calls Tryz.prog 6 #[ptr s, .agg #[vt, vu], .agg #[.int .i64 3, .int .i64 t.k, .int .u32 t.s, .int .u32 t.v, .int .u32 id, .slice oa on oc, .slice ma mn mc]] w fun e w' => ∃ vt' vu' own' L' m' ks', e = .returned (.tuple #[.agg #[vt', vu'], .bool true]) ∧ Aside (Sp A w0 own' w' s L' m' ks' vt' vu') ∧ Aside (m' ≤ m + 1 ∧ ks'.length ≤ ks.length + 1) := by
  obtain ⟨ta, tc, hvt, _, _, _⟩ := h.t.at
  obtain ⟨ua, uc, hvu, _, _, _, _⟩ := h.u.at
  have hbd := h.sc.bound
  obtain ⟨tn, htn⟩ : ∃ tn, tn = L.length := ⟨_, rfl⟩
  obtain ⟨un, hun⟩ : ∃ un, un = ks.length := ⟨_, rfl⟩
  rw [← htn] at hvt
  rw [← hun] at hvu
  subst hvt hvu
  have P0 := Sr.start h [.int .i64 3, .int .i64 t.k, .int .u32 t.s, .int .u32 t.v, .int .u32 id, .slice oa on oc, .slice ma mn mc]
  obtain ⟨W0, hW0⟩ : ∃ W0, W0 = ((w.alloc (.cells #[.slice ta tn tc, .slice ua un uc] 29)).alloc (.cells #[.int .i64 3, .int .i64 t.k, .int .u32 t.s, .int .u32 t.v, .int .u32 id, .slice oa on oc, .slice ma mn mc] 38)).alloc (.cells #[.slice none 0 0, .slice none 0 0] 29) := ⟨_, rfl⟩
  rw [← hW0] at P0
  generalize give own w.heap.size 10 = own0 at P0
  have DC := Aside.mk (refReady (w := W0) ta tn tc id P0.it.u (by omega))
  have HB := Aside.mk (And.intro hbd (And.intro htn hun))
  clear h htn hun hbd
  go_enter Tryz.func6, Tryz.ntmps6
  go_upto_region 1 with fail
  rw [← hW0]
  clear hW0
  obtain ⟨b4, hb4⟩ : ∃ b, Aside (b = w.heap.size) := ⟨_, ⟨rfl⟩⟩
  obtain ⟨b5, hb5⟩ : ∃ b, Aside (b = w.heap.size + 1) := ⟨_, ⟨rfl⟩⟩
  obtain ⟨b6, hb6⟩ : ∃ b, Aside (b = w.heap.size + 1 + 1) := ⟨_, ⟨rfl⟩⟩
  rw [← hb6.it, ← hb5.it, ← hb4.it] at P0
  rw [show w.heap.size + 2 = b6 from hb6.it.symm, ← hb5.it, ← hb4.it]
  obtain ⟨d0, d1⟩ := Sr.cn2 P0
  have o0 := P0.it.c5.1.cell 0
  have o1 := P0.it.c5.1.cell 1
  have o2 := P0.it.c5.1.cell 2
  have o4 := P0.it.c5.1.cell 4
  simp only [List.getElem?_cons_zero, List.getElem?_cons_succ] at o0 o1 o2 o4
  go_upto_region 11 with (first | (go_at_call 20; refine DC.it.mono ?_; rintro e w1 ⟨v1, rfl, T1, kk⟩; obtain ⟨h0, h2, hv1, _, _, _, _⟩ := T1.it.1.at; generalize (addL ks id).length = h1 at hv1; subst hv1) | fail)
  obtain ⟨w2, hw2⟩ : ∃ w2, w2 = w1.alloc (.cells #[.slice ta tn tc, .slice h0 h1 h2] 29) := ⟨_, rfl⟩
  obtain ⟨own2, P2⟩ : ∃ own2, Aside (Sr A w0 own2 w2 s L m ks b5 b6 w1.heap.size [.int .i64 3, .int .i64 t.k, .int .u32 t.s, .int .u32 t.v, .int .u32 id, .slice oa on oc, .slice ma mn mc] (.slice ta tn tc) (.slice h0 h1 h2) L (addL ks id)) := ⟨_, by rw [hw2]; exact Sr.doc P0 kk.it (TN.same P0.it.t kk.it) T1.it⟩
  rw [← hw2]
  obtain ⟨bn, hbn⟩ : ∃ bn, Aside (bn = w1.heap.size) := ⟨_, ⟨rfl⟩⟩
  rw [← hbn.it] at P2 ⊢
  clear hw2 hbn P0 d0 d1 o0 o1 o2 o4 DC kk
  obtain ⟨d0, d1⟩ := Sr.cn2 P2
  have o0 := P2.it.c5.1.cell 0
  have o1 := P2.it.c5.1.cell 1
  have o2 := P2.it.c5.1.cell 2
  have o4 := P2.it.c5.1.cell 4
  simp only [List.getElem?_cons_zero, List.getElem?_cons_succ] at o0 o1 o2 o4
  have P2d := Sr.quiet P2 (Keeps.refl _ _).drew
  have HM : m ≤ 8796093022208 := by omega
  have HL : ks.length < maxLen := by unfold maxLen; omega
  clear P2
  go_region_held3 (fun w' => w'.cell? ⟨bn, 0, none⟩ = some (.slice ta tn tc) ∧ w'.cell? ⟨bn, 1, none⟩ = some (.slice h0 h1 h2) ∧ w'.cell? ⟨b5, 1, none⟩ = some (.int .i64 t.k) ∧ w'.cell? ⟨b5, 2, none⟩ = some (.int .u32 t.s) ∧ w'.cell? ⟨b5, 4, none⟩ = some (.int .u32 id)) (first | with_reducible exact Sr.s5 (by with_reducible assumption) | with_reducible exact Sr.s5S (by with_reducible assumption)) (first
    | (go_at_call 8; with_reducible refine (sr_ready id hid HL (by with_reducible assumption)).mono ?_; rintro e w5 ⟨own5, rfl, P5⟩; obtain ⟨f0, f1, f2, f3⟩ := Sr.c62 P5)
    | fail)
  all_goals
    obtain ⟨y0, y1, E⟩ := Sr.fin P5
    clear f0 f1 f2 f3
    generalize (w5.setCell ⟨b6, 0, none⟩ (.slice ta tn tc)).setCell ⟨b6, 1, none⟩ (.slice h0 h1 h2) = V at y0 y1 E ⊢
    go_wp2
    refine bodyPost_ret (v := .tuple #[.agg #[.slice ta tn tc, .slice h0 h1 h2], .bool true]) (by simp [results, Tryz.results6, go_sem, y0, y1]) rfl ?_
    exact ⟨_, _, own5, _, _, _, rfl, E, ⟨by omega, addL_len ks id⟩⟩

set_option maxRecDepth 20000 in
set_option maxHeartbeats 4000000 in
theorem step4 (h : Sp A w0 own w s L m ks vt vu) (t : Tk) (id : Nat) (hid : id ≤ 4294967295) (oa ma : Option Addr) (on oc mn mc : Nat) (hm : m < 8796093022208) (hl : ks.length * 4 + 4 ≤ 140737488355328) :
    Calls Tryz.prog 6 #[ptr s, .agg #[vt, vu], .agg #[.int .i64 4, .int .i64 t.k, .int .u32 t.s, .int .u32 t.v, .int .u32 id, .slice oa on oc, .slice ma mn mc]] w fun e w' => ∃ vt' vu' own' L' m' ks', e = .returned (.tuple #[.agg #[vt', vu'], .bool true]) ∧ Aside (Sp A w0 own' w' s L' m' ks' vt' vu') ∧ Aside (m' ≤ m + 1 ∧ ks'.length ≤ ks.length + 1) := by
  obtain ⟨ta, tc, hvt, _, _, _⟩ := h.t.at
  obtain ⟨ua, uc, hvu, _, _, _, _⟩ := h.u.at
  have hbd := h.sc.bound
  obtain ⟨tn, htn⟩ : ∃ tn, tn = L.length := ⟨_, rfl⟩
  obtain ⟨un, hun⟩ : ∃ un, un = ks.length := ⟨_, rfl⟩
  rw [← htn] at hvt
  rw [← hun] at hvu
  subst hvt hvu
  have P0 := Sr.start h [.int .i64 4, .int .i64 t.k, .int .u32 t.s, .int .u32 t.v, .int .u32 id, .slice oa on oc, .slice ma mn mc]
  obtain ⟨W0, hW0⟩ : ∃ W0, W0 = ((w.alloc (.cells #[.slice ta tn tc, .slice ua un uc] 29)).alloc (.cells #[.int .i64 4, .int .i64 t.k, .int .u32 t.s, .int .u32 t.v, .int .u32 id, .slice oa on oc, .slice ma mn mc] 38)).alloc (.cells #[.slice none 0 0, .slice none 0 0] 29) := ⟨_, rfl⟩
  rw [← hW0] at P0
  generalize give own w.heap.size 10 = own0 at P0
  have DC := Aside.mk (refRest (w := W0) ta tn tc id P0.it.u (by omega))
  have HB := Aside.mk (And.intro hbd (And.intro htn hun))
  clear h htn hun hbd
  go_enter Tryz.func6, Tryz.ntmps6
  go_upto_region 1 with fail
  rw [← hW0]
  clear hW0
  obtain ⟨b4, hb4⟩ : ∃ b, Aside (b = w.heap.size) := ⟨_, ⟨rfl⟩⟩
  obtain ⟨b5, hb5⟩ : ∃ b, Aside (b = w.heap.size + 1) := ⟨_, ⟨rfl⟩⟩
  obtain ⟨b6, hb6⟩ : ∃ b, Aside (b = w.heap.size + 1 + 1) := ⟨_, ⟨rfl⟩⟩
  rw [← hb6.it, ← hb5.it, ← hb4.it] at P0
  rw [show w.heap.size + 2 = b6 from hb6.it.symm, ← hb5.it, ← hb4.it]
  obtain ⟨d0, d1⟩ := Sr.cn2 P0
  have o0 := P0.it.c5.1.cell 0
  have o1 := P0.it.c5.1.cell 1
  have o2 := P0.it.c5.1.cell 2
  have o4 := P0.it.c5.1.cell 4
  simp only [List.getElem?_cons_zero, List.getElem?_cons_succ] at o0 o1 o2 o4
  go_upto_region 14 with (first | (go_at_call 21; refine DC.it.mono ?_; rintro e w1 ⟨v1, rfl, T1, kk⟩; obtain ⟨h0, h2, hv1, _, _, _, _⟩ := T1.it.1.at; generalize (remL ks id).length = h1 at hv1; subst hv1) | fail)
  obtain ⟨w2, hw2⟩ : ∃ w2, w2 = w1.alloc (.cells #[.slice ta tn tc, .slice h0 h1 h2] 29) := ⟨_, rfl⟩
  obtain ⟨own2, P2⟩ : ∃ own2, Aside (Sr A w0 own2 w2 s L m ks b5 b6 w1.heap.size [.int .i64 4, .int .i64 t.k, .int .u32 t.s, .int .u32 t.v, .int .u32 id, .slice oa on oc, .slice ma mn mc] (.slice ta tn tc) (.slice h0 h1 h2) L (remL ks id)) := ⟨_, by rw [hw2]; exact Sr.doc P0 kk.it (TN.same P0.it.t kk.it) T1.it⟩
  rw [← hw2]
  obtain ⟨bn, hbn⟩ : ∃ bn, Aside (bn = w1.heap.size) := ⟨_, ⟨rfl⟩⟩
  rw [← hbn.it] at P2 ⊢
  clear hw2 hbn P0 d0 d1 o0 o1 o2 o4 DC kk
  obtain ⟨d0, d1⟩ := Sr.cn2 P2
  have o0 := P2.it.c5.1.cell 0
  have o1 := P2.it.c5.1.cell 1
  have o2 := P2.it.c5.1.cell 2
  have o4 := P2.it.c5.1.cell 4
  simp only [List.getElem?_cons_zero, List.getElem?_cons_succ] at o0 o1 o2 o4
  have P2d := Sr.quiet P2 (Keeps.refl _ _).drew
  have HM : m ≤ 8796093022208 := by omega
  have HL : ks.length < maxLen := by unfold maxLen; omega
  clear P2
  go_region_held3 (fun w' => w'.cell? ⟨bn, 0, none⟩ = some (.slice ta tn tc) ∧ w'.cell? ⟨bn, 1, none⟩ = some (.slice h0 h1 h2) ∧ w'.cell? ⟨b5, 1, none⟩ = some (.int .i64 t.k) ∧ w'.cell? ⟨b5, 2, none⟩ = some (.int .u32 t.s) ∧ w'.cell? ⟨b5, 4, none⟩ = some (.int .u32 id)) (first | with_reducible exact Sr.s5 (by with_reducible assumption) | with_reducible exact Sr.s5S (by with_reducible assumption)) (first
    | (go_at_call 22; with_reducible refine (sr_rest id hid (by with_reducible assumption)).mono ?_; rintro e w5 ⟨own5, rfl, P5⟩; obtain ⟨f0, f1, f2, f3⟩ := Sr.c62 P5)
    | fail)
  all_goals
    obtain ⟨y0, y1, E⟩ := Sr.fin P5
    clear f0 f1 f2 f3
    generalize (w5.setCell ⟨b6, 0, none⟩ (.slice ta tn tc)).setCell ⟨b6, 1, none⟩ (.slice h0 h1 h2) = V at y0 y1 E ⊢
    go_wp2
    refine bodyPost_ret (v := .tuple #[.agg #[.slice ta tn tc, .slice h0 h1 h2], .bool true]) (by simp [results, Tryz.results6, go_sem, y0, y1]) rfl ?_
    exact ⟨_, _, own5, _, _, _, rfl, E, ⟨by omega, remL_len ks id⟩⟩

set_option maxRecDepth 20000 in
set_option maxHeartbeats 4000000 in
theorem step5 (h : Sp A w0 own w s L m ks vt vu) (t : Tk) (id : Nat) (hid : id ≤ 4294967295) (oa ma : Option Addr) (on oc mn mc : Nat) (hm : m < 8796093022208) (hl : ks.length * 4 + 4 ≤ 140737488355328) :
    Calls Tryz.prog 6 #[ptr s, .agg #[vt, vu], .agg #[.int .i64 5, .int .i64 t.k, .int .u32 t.s, .int .u32 t.v, .int .u32 id, .slice oa on oc, .slice ma mn mc]] w fun e w' => ∃ vt' vu' own' L' m' ks', e = .returned (.tuple #[.agg #[vt', vu'], .bool true]) ∧ Aside (Sp A w0 own' w' s L' m' ks' vt' vu') ∧ Aside (m' ≤ m + 1 ∧ ks'.length ≤ ks.length + 1) := by
  obtain ⟨ta, tc, hvt, _, _, _⟩ := h.t.at
  obtain ⟨ua, uc, hvu, _, _, _, _⟩ := h.u.at
  have hbd := h.sc.bound
  obtain ⟨tn, htn⟩ : ∃ tn, tn = L.length := ⟨_, rfl⟩
  obtain ⟨un, hun⟩ : ∃ un, un = ks.length := ⟨_, rfl⟩
  rw [← htn] at hvt
  rw [← hun] at hvu
  subst hvt hvu
  have P0 := Sr.start h [.int .i64 5, .int .i64 t.k, .int .u32 t.s, .int .u32 t.v, .int .u32 id, .slice oa on oc, .slice ma mn mc]
  obtain ⟨W0, hW0⟩ : ∃ W0, W0 = ((w.alloc (.cells #[.slice ta tn tc, .slice ua un uc] 29)).alloc (.cells #[.int .i64 5, .int .i64 t.k, .int .u32 t.s, .int .u32 t.v, .int .u32 id, .slice oa on oc, .slice ma mn mc] 38)).alloc (.cells #[.slice none 0 0, .slice none 0 0] 29) := ⟨_, rfl⟩
  rw [← hW0] at P0
  generalize give own w.heap.size 10 = own0 at P0
  have DC := Aside.mk (refForget (w := W0) id P0.it.t P0.it.u (by omega) (by omega))
  have HB := Aside.mk (And.intro hbd (And.intro htn hun))
  clear h htn hun hbd
  go_enter Tryz.func6, Tryz.ntmps6
  go_upto_region 1 with fail
  rw [← hW0]
  clear hW0
  obtain ⟨b4, hb4⟩ : ∃ b, Aside (b = w.heap.size) := ⟨_, ⟨rfl⟩⟩
  obtain ⟨b5, hb5⟩ : ∃ b, Aside (b = w.heap.size + 1) := ⟨_, ⟨rfl⟩⟩
  obtain ⟨b6, hb6⟩ : ∃ b, Aside (b = w.heap.size + 1 + 1) := ⟨_, ⟨rfl⟩⟩
  rw [← hb6.it, ← hb5.it, ← hb4.it] at P0
  rw [show w.heap.size + 2 = b6 from hb6.it.symm, ← hb5.it, ← hb4.it]
  obtain ⟨d0, d1⟩ := Sr.cn2 P0
  have o0 := P0.it.c5.1.cell 0
  have o1 := P0.it.c5.1.cell 1
  have o2 := P0.it.c5.1.cell 2
  have o4 := P0.it.c5.1.cell 4
  simp only [List.getElem?_cons_zero, List.getElem?_cons_succ] at o0 o1 o2 o4
  go_upto_region 17 with (first | (go_at_call 23; refine DC.it.mono ?_; rintro e w1 ⟨v1, v2, rfl, T1, U1, kk⟩; obtain ⟨h0, h2, hv1, _, _, _⟩ := T1.it.1.at; generalize (L.filter (fun t => !decide (t.s = id))).length = h1 at hv1; subst hv1; obtain ⟨i0, i2, hv2, _, _, _, _⟩ := U1.it.1.at; generalize (remL ks id).length = i1 at hv2; subst hv2) | fail)
  obtain ⟨w2, hw2⟩ : ∃ w2, w2 = w1.alloc (.cells #[.slice h0 h1 h2, .slice i0 i1 i2] 29) := ⟨_, rfl⟩
  obtain ⟨own2, P2⟩ : ∃ own2, Aside (Sr A w0 own2 w2 s L m ks b5 b6 w1.heap.size [.int .i64 5, .int .i64 t.k, .int .u32 t.s, .int .u32 t.v, .int .u32 id, .slice oa on oc, .slice ma mn mc] (.slice h0 h1 h2) (.slice i0 i1 i2) (L.filter (fun t => !decide (t.s = id))) (remL ks id)) := ⟨_, by rw [hw2]; exact Sr.doc P0 kk.it T1.it U1.it⟩
  rw [← hw2]
  obtain ⟨bn, hbn⟩ : ∃ bn, Aside (bn = w1.heap.size) := ⟨_, ⟨rfl⟩⟩
  rw [← hbn.it] at P2 ⊢
  clear hw2 hbn P0 d0 d1 o0 o1 o2 o4 DC kk
  obtain ⟨d0, d1⟩ := Sr.cn2 P2
  have o0 := P2.it.c5.1.cell 0
  have o1 := P2.it.c5.1.cell 1
  have o2 := P2.it.c5.1.cell 2
  have o4 := P2.it.c5.1.cell 4
  simp only [List.getElem?_cons_zero, List.getElem?_cons_succ] at o0 o1 o2 o4
  have P2d := Sr.quiet P2 (Keeps.refl _ _).drew
  have HM : m ≤ 8796093022208 := by omega
  have HL : ks.length < maxLen := by unfold maxLen; omega
  clear P2
  go_region_held3 (fun w' => w'.cell? ⟨bn, 0, none⟩ = some (.slice h0 h1 h2) ∧ w'.cell? ⟨bn, 1, none⟩ = some (.slice i0 i1 i2) ∧ w'.cell? ⟨b5, 1, none⟩ = some (.int .i64 t.k) ∧ w'.cell? ⟨b5, 2, none⟩ = some (.int .u32 t.s) ∧ w'.cell? ⟨b5, 4, none⟩ = some (.int .u32 id)) (first | with_reducible exact Sr.s5 (by with_reducible assumption) | with_reducible exact Sr.s5S (by with_reducible assumption)) (first
    | (go_at_call 24; with_reducible refine (sr_forget HM id hid (by with_reducible assumption)).mono ?_; rintro e w5 ⟨own5, rfl, P5⟩; obtain ⟨f0, f1, f2, f3⟩ := Sr.c62 P5)
    | fail)
  all_goals
    obtain ⟨y0, y1, E⟩ := Sr.fin P5
    clear f0 f1 f2 f3
    generalize (w5.setCell ⟨b6, 0, none⟩ (.slice h0 h1 h2)).setCell ⟨b6, 1, none⟩ (.slice i0 i1 i2) = V at y0 y1 E ⊢
    go_wp2
    refine bodyPost_ret (v := .tuple #[.agg #[.slice h0 h1 h2, .slice i0 i1 i2], .bool true]) (by simp [results, Tryz.results6, go_sem, y0, y1]) rfl ?_
    exact ⟨_, _, own5, _, _, _, rfl, E, ⟨by omega, remL_len ks id⟩⟩
end Go.Proofs.YtnohcbdnhpaafaaGreatDoor

/-
  SchedPlays: the steps Ticket, Clear, Count and looks
-/
namespace Go.Proofs.YtnohcbdnhpaafaaGreatDoor
open Go.RowKit

variable {A : Nat → Addr} {w w' w0 W : World} {own own' : Nat → Nat} {s m m' : Nat} {ks ks' k1 : List Nat} {L L' L1 : List Tk} {v vt vu x0 x1 y : Value} {b r b5 b6 bn : Nat} {I : Nat → Prop} {cs : List Value}
variable [Xs]

omit [Xs] in
theorem Sc.pw (h : Sc A w0 own w s L m ks) : L.Pairwise (fun x y => x.k = y.k → x.s = y.s → ¬ Single x.k) ∧ ∀ t ∈ L, t.Wide := by
  obtain ⟨p, r, h⟩ := h
  exact ⟨h.ln.pair, h.ln.wideL⟩
omit [Xs] in
theorem Sc.may (h : Sc A w0 own w s L m ks) : ∀ t ∈ L, mayT t = 0 := by
  obtain ⟨p, r, h⟩ := h
  exact fun t ht => (h.ln.ok t ht).1
omit [Xs] in
theorem Sc.sents (h : Sc A w0 own w s L m ks) : Sents 161 codeVars A w := by
  obtain ⟨p, r, h⟩ := h
  exact h.ln.g.st.s
theorem sr_ticket (t : Tk) (ht : t.Wide) (hm : m < 8796093022208) (h : Aside (Sr A w0 own W s L m ks b5 b6 bn cs vt vu L1 k1)) : Calls Tryz.prog 15 #[ptr s, tkv t.k t.s t.v] W fun e w' => ∃ x own', e = .returned x ∧ Hid (Coded A x (putL L t).2) ∧ Aside (Sr A w0 own' w' s (putL L t).1 (m + 1) ks b5 b6 bn cs vt vu L1 k1) :=
  (ticket_sc h.it.sc t ht hm).mono (by rintro e w' ⟨x, own', rfl, hx, hs, q⟩; exact ⟨x, own', rfl, hx, Sr.sn h q.it in6_9 in6_10 hs.it⟩)
theorem sr_code {x : Value} {k : Int} (hx : Hid (Coded A x k)) (h : Aside (Sr A w0 own W s L m ks b5 b6 bn cs vt vu L1 k1)) : Calls Tryz.prog 17 #[x] W fun e w' => e = .returned (.int .i64 k) ∧ Aside (Sr A w0 own w' s L m ks b5 b6 bn cs vt vu L1 k1) :=
  (code_of (A := A) h.it.sc.sents hx.out).mono (by rintro e w' ⟨rfl, rfl⟩; exact ⟨rfl, h⟩)
set_option maxRecDepth 20000 in
set_option maxHeartbeats 4000000 in
theorem step1 (h : Sp A w0 own w s L m ks vt vu) (t : Tk) (id : Nat) (ht : t.Wide) (oa ma : Option Addr) (on oc mn mc : Nat) (hm : m < 8796093022208) (_hl : ks.length * 4 + 4 ≤ 140737488355328) :
    Calls Tryz.prog 6 #[ptr s, .agg #[vt, vu], .agg #[.int .i64 1, .int .i64 t.k, .int .u32 t.s, .int .u32 t.v, .int .u32 id, .slice oa on oc, .slice ma mn mc]] w fun e w' => ∃ vt' vu' own' L' m' ks', e = .returned (.tuple #[.agg #[vt', vu'], .bool true]) ∧ Aside (Sp A w0 own' w' s L' m' ks' vt' vu') ∧ Aside (m' ≤ m + 1 ∧ ks'.length ≤ ks.length + 1) := by
  obtain ⟨ta, tc, hvt, _, _, _⟩ := h.t.at
  obtain ⟨ua, uc, hvu, _, _, _, _⟩ := h.u.at
  have hbd := h.sc.bound
  obtain ⟨tn, htn⟩ : ∃ tn, tn = L.length := ⟨_, rfl⟩
  obtain ⟨un, hun⟩ : ∃ un, un = ks.length := ⟨_, rfl⟩
  rw [← htn] at hvt
  rw [← hun] at hvu
  subst hvt hvu
  have P0 := Sr.start h [.int .i64 1, .int .i64 t.k, .int .u32 t.s, .int .u32 t.v, .int .u32 id, .slice oa on oc, .slice ma mn mc]
  obtain ⟨W0, hW0⟩ : ∃ W0, W0 = ((w.alloc (.cells #[.slice ta tn tc, .slice ua un uc] 29)).alloc (.cells #[.int .i64 1, .int .i64 t.k, .int .u32 t.s, .int .u32 t.v, .int .u32 id, .slice oa on oc, .slice ma mn mc] 38)).alloc (.cells #[.slice none 0 0, .slice none 0 0] 29) := ⟨_, rfl⟩
  rw [← hW0] at P0
  generalize give own w.heap.size 10 = own0 at P0
  have HPW := Aside.mk (Sc.pw h.sc)
  have HT := Aside.mk ht
  have HB := Aside.mk (And.intro hbd (And.intro htn hun))
  clear h htn hun hbd
  go_enter Tryz.func6, Tryz.ntmps6
  go_upto_region 1 with fail
  rw [← hW0]
  clear hW0
  obtain ⟨b4, hb4⟩ : ∃ b, Aside (b = w.heap.size) := ⟨_, ⟨rfl⟩⟩
  obtain ⟨b5, hb5⟩ : ∃ b, Aside (b = w.heap.size + 1) := ⟨_, ⟨rfl⟩⟩
  obtain ⟨b6, hb6⟩ : ∃ b, Aside (b = w.heap.size + 1 + 1) := ⟨_, ⟨rfl⟩⟩
  rw [← hb6.it, ← hb5.it, ← hb4.it] at P0
  rw [show w.heap.size + 2 = b6 from hb6.it.symm, ← hb5.it, ← hb4.it]
  obtain ⟨d0, d1⟩ := Sr.cn2 P0
  have o0 := P0.it.c5.1.cell 0
  have o1 := P0.it.c5.1.cell 1
  have o2 := P0.it.c5.1.cell 2
  have o3 := P0.it.c5.1.cell 3
  simp only [List.getElem?_cons_zero, List.getElem?_cons_succ] at o0 o1 o2 o3
  go_upto_region 4 with (first | (go_at_call 15; refine (sr_ticket t HT.it hm P0).mono ?_; rintro e wq ⟨xv, ownq, rfl, hxv, Pq⟩) | fail)
  clear o0 o1 o2 o3 d0 d1
  obtain ⟨d0, d1⟩ := Sr.cn2 Pq
  have o0 := Pq.it.c5.1.cell 0
  have o1 := Pq.it.c5.1.cell 1
  have o2 := Pq.it.c5.1.cell 2
  have o3 := Pq.it.c5.1.cell 3
  simp only [List.getElem?_cons_zero, List.getElem?_cons_succ] at o0 o1 o2 o3
  have DC := Aside.mk (refTicket (w := wq) t ua un uc Pq.it.t HT.it HPW.it.1 HPW.it.2 (by have := HB.it.1; omega))
  obtain ⟨pe, hpe⟩ : ∃ pe, (putL L t).2 = pe := ⟨_, rfl⟩
  rw [hpe] at DC hxv
  clear hpe
  obtain ⟨LL, hLL⟩ : ∃ LL, (putL L t).1 = LL := ⟨_, rfl⟩
  rw [hLL] at DC Pq
  clear hLL
  go_upto_region 5 with (first | (go_at_call 16; refine DC.it.mono ?_; rintro e w1 ⟨v1, rfl, T1, kk⟩; obtain ⟨h0, h2, hv1, _, _, _⟩ := T1.it.1.at; generalize LL.length = h1 at hv1; subst hv1) | fail)
  obtain ⟨w2, hw2⟩ : ∃ w2, w2 = w1.alloc (.cells #[.slice h0 h1 h2, .slice ua un uc] 29) := ⟨_, rfl⟩
  obtain ⟨own2, P2⟩ : ∃ own2, Aside (Sr A w0 own2 w2 s LL (m + 1) ks b5 b6 w1.heap.size [.int .i64 1, .int .i64 t.k, .int .u32 t.s, .int .u32 t.v, .int .u32 id, .slice oa on oc, .slice ma mn mc] (.slice h0 h1 h2) (.slice ua un uc) LL ks) := ⟨_, by rw [hw2]; exact Sr.doc Pq kk.it T1.it (UN.same Pq.it.u kk.it)⟩
  rw [← hw2]
  obtain ⟨bn, hbn⟩ : ∃ bn, Aside (bn = w1.heap.size) := ⟨_, ⟨rfl⟩⟩
  rw [← hbn.it] at P2 ⊢
  clear hw2 hbn P0 Pq d0 d1 o0 o1 o2 o3 DC kk
  obtain ⟨d0, d1⟩ := Sr.cn2 P2
  have o0 := P2.it.c5.1.cell 0
  have o1 := P2.it.c5.1.cell 1
  have o2 := P2.it.c5.1.cell 2
  have o4 := P2.it.c5.1.cell 4
  simp only [List.getElem?_cons_zero, List.getElem?_cons_succ] at o0 o1 o2 o4
  have P2d := Sr.quiet P2 (Keeps.refl _ _).drew
  clear P2
  go_region_held3 (fun w' => w'.cell? ⟨bn, 0, none⟩ = some (.slice h0 h1 h2) ∧ w'.cell? ⟨bn, 1, none⟩ = some (.slice ua un uc) ∧ w'.cell? ⟨b5, 1, none⟩ = some (.int .i64 t.k) ∧ w'.cell? ⟨b5, 2, none⟩ = some (.int .u32 t.s) ∧ w'.cell? ⟨b5, 4, none⟩ = some (.int .u32 id)) (first | with_reducible exact Sr.s5 (by with_reducible assumption) | with_reducible exact Sr.s5S (by with_reducible assumption)) (first
    | (go_at_call 17; with_reducible refine (sr_code hxv (by with_reducible assumption)).mono ?_; rintro e w5 ⟨rfl, P5⟩; obtain ⟨f0, f1, f2, f3⟩ := Sr.c62 P5)
    | fail)
  all_goals
    obtain ⟨y0, y1, E⟩ := Sr.fin P5
    clear f0 f1 f2 f3
    generalize (w5.setCell ⟨b6, 0, none⟩ (.slice h0 h1 h2)).setCell ⟨b6, 1, none⟩ (.slice ua un uc) = V at y0 y1 E ⊢
    go_wp2
    refine bodyPost_ret (v := .tuple #[.agg #[.slice h0 h1 h2, .slice ua un uc], .bool true]) (by simp [results, Tryz.results6, go_sem, y0, y1]) rfl ?_
    exact ⟨_, _, own2, _, _, _, by first | rfl | simp, E, ⟨by omega, by omega⟩⟩

theorem sr_clear (hm : m ≤ 8796093022208) (h : Aside (Sr A w0 own W s L m ks b5 b6 bn cs vt vu L1 k1)) : Calls Tryz.prog 28 #[ptr s] W fun e w' => ∃ own', e = .returned (.tuple #[]) ∧ Aside (Sr A w0 own' w' s [] m [] b5 b6 bn cs vt vu L1 k1) :=
  (clear_sc h.it.sc hm).mono (by rintro e w' ⟨own', rfl, hs, q⟩; exact ⟨own', rfl, Sr.sn h q.it in6_9 in6_10 hs.it⟩)
theorem sr_looks (hm : m ≤ 8796093022208) (hl : ks.length * 4 ≤ 140737488355328) (kind : Int) (h : Aside (Sr A w0 own W s L m ks b5 b6 bn cs vt vu L ks)) : Calls Tryz.prog 7 #[ptr s, .agg #[vt, vu], .int .i64 kind] W fun e w' => e = .returned (.bool true) ∧ Aside (Sr A w0 own w' s L m ks b5 b6 bn cs vt vu L ks) :=
  (looks_ok h.it.sc hm hl h.it.t h.it.u kind).mono (by rintro e w' ⟨rfl, k⟩; exact ⟨rfl, Sr.quiet h k.it⟩)
theorem Sr.finN (h : Aside (Sr A w0 own W s [] m [] b5 b6 bn cs vt vu L1 k1)) :
    let V := (W.setCell ⟨b6, 0, none⟩ (.slice none 0 0)).setCell ⟨b6, 1, none⟩ (.slice none 0 0)
    V.cell? ⟨b6, 0, none⟩ = some (.slice none 0 0) ∧ V.cell? ⟨b6, 1, none⟩ = some (.slice none 0 0) ∧ Aside (Sp A w0 own V s [] m [] (.slice none 0 0) (.slice none 0 0)) := by
  intro V
  have q : Sn (fun k => k = 10) own W own V := ⟨fun _ _ => rfl, ((Keeps.refl _ _).setCell _ _ (fun _ => h.it.c6.2)).setCell _ _ (fun _ => h.it.c6.2)⟩
  have c := (h.it.c6.1.setCell 0 (.slice none 0 0)).setCell 1 (.slice none 0 0)
  exact ⟨c.cell 0, c.cell 1, ⟨h.it.sc.sn q (by decide) (fun k hk e => by have := hk.2; omega), rdT_none (Nat.zero_le _) (fun _ => rfl), (fun b hb => by cases hb), rdW_nil _, (fun b hb => by cases hb), h.it.x.sn q (by decide)⟩⟩
set_option maxRecDepth 20000 in
set_option maxHeartbeats 4000000 in
theorem step9 (h : Sp A w0 own w s L m ks vt vu) (t : Tk) (id : Nat)  (oa ma : Option Addr) (on oc mn mc : Nat) (hm : m < 8796093022208) (_hl : ks.length * 4 + 4 ≤ 140737488355328) :
    Calls Tryz.prog 6 #[ptr s, .agg #[vt, vu], .agg #[.int .i64 9, .int .i64 t.k, .int .u32 t.s, .int .u32 t.v, .int .u32 id, .slice oa on oc, .slice ma mn mc]] w fun e w' => ∃ vt' vu' own' L' m' ks', e = .returned (.tuple #[.agg #[vt', vu'], .bool true]) ∧ Aside (Sp A w0 own' w' s L' m' ks' vt' vu') ∧ Aside (m' ≤ m + 1 ∧ ks'.length ≤ ks.length + 1) := by
  obtain ⟨ta, tc, hvt, _, _, _⟩ := h.t.at
  obtain ⟨ua, uc, hvu, _, _, _, _⟩ := h.u.at
  have hbd := h.sc.bound
  obtain ⟨tn, htn⟩ : ∃ tn, tn = L.length := ⟨_, rfl⟩
  obtain ⟨un, hun⟩ : ∃ un, un = ks.length := ⟨_, rfl⟩
  rw [← htn] at hvt
  rw [← hun] at hvu
  subst hvt hvu
  have P0 := Sr.start h [.int .i64 9, .int .i64 t.k, .int .u32 t.s, .int .u32 t.v, .int .u32 id, .slice oa on oc, .slice ma mn mc]
  obtain ⟨W0, hW0⟩ : ∃ W0, W0 = ((w.alloc (.cells #[.slice ta tn tc, .slice ua un uc] 29)).alloc (.cells #[.int .i64 9, .int .i64 t.k, .int .u32 t.s, .int .u32 t.v, .int .u32 id, .slice oa on oc, .slice ma mn mc] 38)).alloc (.cells #[.slice none 0 0, .slice none 0 0] 29) := ⟨_, rfl⟩
  rw [← hW0] at P0
  generalize give own w.heap.size 10 = own0 at P0
  have HB := Aside.mk (And.intro hbd (And.intro htn hun))
  clear h htn hun hbd
  go_enter Tryz.func6, Tryz.ntmps6
  go_upto_region 1 with fail
  rw [← hW0]
  clear hW0
  obtain ⟨b4, hb4⟩ : ∃ b, Aside (b = w.heap.size) := ⟨_, ⟨rfl⟩⟩
  obtain ⟨b5, hb5⟩ : ∃ b, Aside (b = w.heap.size + 1) := ⟨_, ⟨rfl⟩⟩
  obtain ⟨b6, hb6⟩ : ∃ b, Aside (b = w.heap.size + 1 + 1) := ⟨_, ⟨rfl⟩⟩
  rw [← hb6.it, ← hb5.it, ← hb4.it] at P0
  rw [show w.heap.size + 2 = b6 from hb6.it.symm, ← hb5.it, ← hb4.it]
  obtain ⟨d0, d1⟩ := Sr.cn2 P0
  have o0 := P0.it.c5.1.cell 0
  have o1 := P0.it.c5.1.cell 1
  have o2 := P0.it.c5.1.cell 2
  have o3 := P0.it.c5.1.cell 3
  simp only [List.getElem?_cons_zero, List.getElem?_cons_succ] at o0 o1 o2 o3
  have HM : m ≤ 8796093022208 := by omega
  go_upto_region 26 with (first | (go_at_call 28; refine (sr_clear HM P0).mono ?_; rintro e w5 ⟨own5, rfl, P5⟩) | fail)
  obtain ⟨f0, f1, f2, f3⟩ := Sr.c62 P5
  obtain ⟨y0, y1, E⟩ := Sr.finN P5
  go_wp2
  generalize (w5.setCell ⟨b6, 0, none⟩ (.slice none 0 0)).setCell ⟨b6, 1, none⟩ (.slice none 0 0) = V at y0 y1 E ⊢
  refine bodyPost_ret (v := .tuple #[.agg #[.slice none 0 0, .slice none 0 0], .bool true]) (by simp [results, Tryz.results6, go_sem, y0, y1]) rfl ?_
  exact ⟨_, _, own5, _, _, _, rfl, E, ⟨by omega, by simp⟩⟩
set_option maxRecDepth 20000 in
set_option maxHeartbeats 4000000 in
theorem stepX (h : Sp A w0 own w s L m ks vt vu) (t : Tk) (id : Nat) (kind : Int) (n1 : ¬ kind = 1) (n2 : ¬ kind = 2) (n3 : ¬ kind = 3) (n4 : ¬ kind = 4) (n5 : ¬ kind = 5) (n6 : ¬ kind = 6) (n7 : ¬ kind = 7) (n9 : ¬ kind = 9) (oa ma : Option Addr) (on oc mn mc : Nat) (hm : m < 8796093022208) (hl : ks.length * 4 + 4 ≤ 140737488355328) :
    Calls Tryz.prog 6 #[ptr s, .agg #[vt, vu], .agg #[.int .i64 kind, .int .i64 t.k, .int .u32 t.s, .int .u32 t.v, .int .u32 id, .slice oa on oc, .slice ma mn mc]] w fun e w' => ∃ vt' vu' own' L' m' ks', e = .returned (.tuple #[.agg #[vt', vu'], .bool true]) ∧ Aside (Sp A w0 own' w' s L' m' ks' vt' vu') ∧ Aside (m' ≤ m + 1 ∧ ks'.length ≤ ks.length + 1) := by
  obtain ⟨ta, tc, hvt, _, _, _⟩ := h.t.at
  obtain ⟨ua, uc, hvu, _, _, _, _⟩ := h.u.at
  have hbd := h.sc.bound
  obtain ⟨tn, htn⟩ : ∃ tn, tn = L.length := ⟨_, rfl⟩
  obtain ⟨un, hun⟩ : ∃ un, un = ks.length := ⟨_, rfl⟩
  rw [← htn] at hvt
  rw [← hun] at hvu
  subst hvt hvu
  have P0 := Sr.start h [.int .i64 kind, .int .i64 t.k, .int .u32 t.s, .int .u32 t.v, .int .u32 id, .slice oa on oc, .slice ma mn mc]
  obtain ⟨W0, hW0⟩ : ∃ W0, W0 = ((w.alloc (.cells #[.slice ta tn tc, .slice ua un uc] 29)).alloc (.cells #[.int .i64 kind, .int .i64 t.k, .int .u32 t.s, .int .u32 t.v, .int .u32 id, .slice oa on oc, .slice ma mn mc] 38)).alloc (.cells #[.slice none 0 0, .slice none 0 0] 29) := ⟨_, rfl⟩
  rw [← hW0] at P0
  generalize give own w.heap.size 10 = own0 at P0
  have HB := Aside.mk (And.intro hbd (And.intro htn hun))
  clear h htn hun hbd
  go_enter Tryz.func6, Tryz.ntmps6
  go_upto_region 1 with fail
  rw [← hW0]
  clear hW0
  obtain ⟨b4, hb4⟩ : ∃ b, Aside (b = w.heap.size) := ⟨_, ⟨rfl⟩⟩
  obtain ⟨b5, hb5⟩ : ∃ b, Aside (b = w.heap.size + 1) := ⟨_, ⟨rfl⟩⟩
  obtain ⟨b6, hb6⟩ : ∃ b, Aside (b = w.heap.size + 1 + 1) := ⟨_, ⟨rfl⟩⟩
  rw [← hb6.it, ← hb5.it, ← hb4.it] at P0
  rw [show w.heap.size + 2 = b6 from hb6.it.symm, ← hb5.it, ← hb4.it]
  obtain ⟨d0, d1⟩ := Sr.cn2 P0
  have o0 := P0.it.c5.1.cell 0
  have o1 := P0.it.c5.1.cell 1
  have o2 := P0.it.c5.1.cell 2
  have o3 := P0.it.c5.1.cell 3
  simp only [List.getElem?_cons_zero, List.getElem?_cons_succ] at o0 o1 o2 o3
  have P0d := Sr.quiet P0 (Keeps.refl _ _).drew
  have HM : m ≤ 8796093022208 := by omega
  have HL : ks.length * 4 ≤ 140737488355328 := by omega
  go_upto_region 27 with fail
  clear P0 o0 o1 o2 o3 d0 d1
  go_region_held3 (fun w' => w'.cell? ⟨b4, 0, none⟩ = some (.slice ta tn tc) ∧ w'.cell? ⟨b4, 1, none⟩ = some (.slice ua un uc) ∧ w'.cell? ⟨b5, 1, none⟩ = some (.int .i64 t.k) ∧ w'.cell? ⟨b5, 2, none⟩ = some (.int .u32 t.s) ∧ w'.cell? ⟨b5, 4, none⟩ = some (.int .u32 id)) (first | with_reducible exact Sr.s5 (by with_reducible assumption) | with_reducible exact Sr.s5S (by with_reducible assumption)) (first
    | (go_at_call 7; with_reducible refine (sr_looks HM HL t.k (by with_reducible assumption)).mono ?_; rintro e w5 ⟨rfl, P5⟩; obtain ⟨f0, f1, f2, f3⟩ := Sr.c62 P5)
    | fail)
  all_goals
    obtain ⟨y0, y1, E⟩ := Sr.fin P5
    clear f0 f1 f2 f3
    generalize (w5.setCell ⟨b6, 0, none⟩ (.slice ta tn tc)).setCell ⟨b6, 1, none⟩ (.slice ua un uc) = V at y0 y1 E ⊢
    go_wp2
    refine bodyPost_ret (v := .tuple #[.agg #[.slice ta tn tc, .slice ua un uc], .bool true]) (by simp [results, Tryz.results6, go_sem, y0, y1]) rfl ?_
    exact ⟨_, _, own0, _, _, _, rfl, E, ⟨by omega, by omega⟩⟩
end Go.Proofs.YtnohcbdnhpaafaaGreatDoor

