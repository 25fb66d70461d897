/-
  layer 17's laws: Same, fixed; PingsNames
-/
import Derived.Test.YtnmpnajmhfonhaaDoorPgC
import Derived.Deep.RegionHeld3
import Derived.BigRegion
namespace Go.Proofs.YtnmpnajmhfonhaaDoor
open Go.RowKit

variable {A : Nat → Addr} {w w' W w0 : World} {own own' : Nat → Nat} {i r p : Nat} {x : Value} {m : Pm} {L : List Nat} {I : Nat → Prop}

theorem ReadsK.at1 {v : Value} (h : ReadsK 1 w v L.length (L.map e32)) : ∃ a c, v = .slice a L.length c ∧ L.length ≤ c ∧ c ≤ maxLen ∧ ∀ j x, L[j]? = some x → ∃ g o, a = some ⟨g, o, none⟩ ∧ w.cell? ⟨g, o + j, none⟩ = some (.int .u32 (x : Nat)) := by
  obtain ⟨_, a, c, e, h1, h2, _, hc⟩ := h
  exact ⟨a, c, e, h1, h2, fun j x hj => hc j _ (by rw [List.getElem?_map, hj]; rfl)⟩
theorem same17 (a b : Value) (l : List Nat) (ha : ReadsK 1 w a l.length (l.map e32)) (hb : ReadsK 1 w b l.length (l.map e32)) :
    Calls Tryd.prog 15 #[a, b] w fun e w' => e = .returned (.bool true) ∧ Aside (Keeps Nowhere w w') := by
  obtain ⟨pa, ca, rfl, hla, hma, hca⟩ := ReadsK.at1 ha
  obtain ⟨pb, cb, rfl, hlb, hmb, hcb⟩ := ReadsK.at1 hb
  obtain ⟨n, hn⟩ : ∃ n, n = l.length := ⟨_, rfl⟩
  have hl : n ≤ 9223372036854775807 := by unfold maxLen at hma; omega
  have CA : Aside (∀ k, k < n → ∃ x o u, pa = some ⟨x, o, none⟩ ∧ l[k]? = some u ∧ w.cell? ⟨x, o + k, none⟩ = some (.int .u32 (u : Nat))) := ⟨by
    intro k hk
    have e := List.getElem?_eq_getElem (l := l) (i := k) (by omega)
    obtain ⟨g, o, h1, h2⟩ := hca k _ e
    exact ⟨g, o, _, h1, e, h2⟩⟩
  have CB : Aside (∀ k u, l[k]? = some u → ∃ x o, pb = some ⟨x, o, none⟩ ∧ w.cell? ⟨x, o + k, none⟩ = some (.int .u32 (u : Nat))) := ⟨fun k u e => hcb k u e⟩
  rw [← hn] at hla hlb ⊢
  clear hca hcb hn hma hmb ha hb
  go_enter Tryd.func15, Tryd.ntmps15
  go_wp2
  go_loopw [5, 13] (fun _ i wr => ∃ k : Nat, k ≤ n ∧ i = .int .i64 k ∧ Aside (Keeps Nowhere w wr)) (fun _ i _ => n - natOf i)
  case atStart => exact ⟨0, Nat.zero_le _, rfl, ⟨Keeps.refl _ _⟩⟩
  case round =>
    obtain ⟨k, hk, rfl, HB⟩ := hrel
    by_cases hkl : k < n
    · obtain ⟨x, o, u, rfl, hu, hx⟩ := CA.it k hkl
      obtain ⟨y, o2, rfl, hy⟩ := CB.it k u hu
      have cx : wr.cell? ⟨x, o + k, none⟩ = some (.int .u32 u) := by rw [HB.it.bel.cell (World.block_lt_of_cell? w _ hx)]; exact hx
      have cy : wr.cell? ⟨y, o2 + k, none⟩ = some (.int .u32 u) := by rw [HB.it.bel.cell (World.block_lt_of_cell? w _ hy)]; exact hy
      clear hx hy hu CA CB
      go_wp2_with fail
      go_quiet (fail)
      go_wp2
      go_roundw
      case rel => exact ⟨k + 1, by omega, by go_num, ⟨HB.it.drewN _⟩⟩
      case measure => simp [natOf]; omega
    · obtain rfl : k = n := by omega
      go_wp2
      go_ret
      exact ⟨rfl, HB⟩

/-- one Pings (owner 1) above the ground -/
structure P1 (A : Nat → Addr) (w0 : World) (own : Nat → Nat) (W : World) (x : Value) (m : Pm) : Prop where
  g : OnG A w0 own W
  t : PgV own 1 1 W x m
theorem P1.quiet (h : P1 A w0 own W x m) (hk : Keeps Nowhere W w') : P1 A w0 own w' x m := ⟨h.g.quiet hk, h.t.quiet hk⟩
theorem p1_ask (h : Aside (P1 A w0 own W x m)) : Calls Tryd.prog 17 #[x] W fun e w' => ∃ ev, e = .returned (.tuple #[.int .u32 (m.askT : Nat), ev]) ∧ Hid (Coded A ev m.askC) ∧ Aside (P1 A w0 own w' x m.ask) := by
  refine (pask h.it.t h.it.g.sents).mono ?_
  rintro e w' ⟨ev, rfl, C, X⟩
  exact ⟨ev, rfl, C, ⟨h.it.g.sn X.it.2 (by decide), X.it.1⟩⟩
theorem p1_heard (h : Aside (P1 A w0 own W x m)) (t : Nat) (ht : t ≤ 4294967295) (hb : (m.an.length + 1) * 4 ≤ 140737488355328) : Calls Tryd.prog 18 #[x, .int .u32 (t : Nat)] W fun e w' => ∃ ev own', e = .returned ev ∧ Hid (Coded A ev (m.heardC t)) ∧ Aside (P1 A w0 own' w' x (m.heard t)) := by
  refine (pheard h.it.t t ht hb h.it.g.sents).mono ?_
  rintro e w' ⟨ev, rfl, C, X⟩
  obtain ⟨own', t', s'⟩ := X.it
  exact ⟨ev, own', rfl, C, ⟨h.it.g.sn s' (by decide), t'⟩⟩
theorem p1_asked (h : Aside (P1 A w0 own W x m)) (t : Nat) : Calls Tryd.prog 20 #[x, .int .u32 (t : Nat)] W fun e w' => ∃ ev own', e = .returned ev ∧ Hid (Coded A ev m.askedC) ∧ Aside (P1 A w0 own' w' x (m.asked t)) := by
  refine (pasked h.it.t t h.it.g.sents).mono ?_
  rintro e w' ⟨ev, rfl, C, X⟩
  obtain ⟨own', t', s'⟩ := X.it
  exact ⟨ev, own', rfl, C, ⟨h.it.g.sn s' (by decide), t'⟩⟩
theorem p1_repl (h : Aside (P1 A w0 own W x m)) : Calls Tryd.prog 19 #[x] W fun e w' => ∃ own', e = .returned (.tuple #[.int .u32 (hd0 m.ow : Nat), .bool (some0 m.ow)]) ∧ Aside (P1 A w0 own' w' x m.repl) := by
  refine (prepl h.it.t).mono ?_
  rintro e w' ⟨rfl, X⟩
  obtain ⟨own', t', s'⟩ := X.it
  exact ⟨own', rfl, ⟨h.it.g.sn s' (by decide), t'⟩⟩
theorem p1_ans (h : Aside (P1 A w0 own W x m)) : Calls Tryd.prog 16 #[x] W fun e w' => ∃ (a : Option Addr) (c : Nat), e = .returned (.slice a m.an.length c) ∧ Aside (ReadsK 1 w' (.slice a m.an.length c) m.an.length (m.an.map e32)) ∧ Aside (P1 A w0 own w' x m.told) := by
  refine (panswered h.it.t).mono ?_
  rintro e w' ⟨a, c, rfl, R, _, X⟩
  exact ⟨a, c, rfl, ⟨owns_readsK R.it⟩, ⟨h.it.g.sn X.it.2 (by decide), X.it.1 1⟩⟩
theorem p1_wait (h : Aside (P1 A w0 own W x m)) : Calls Tryd.prog 11 #[x] W fun e w' => ∃ (a : Option Addr) (c : Nat), e = .returned (.slice a m.L.length c) ∧ Aside (ReadsK 1 w' (.slice a m.L.length c) m.L.length ((ks m.L).map e32)) ∧ Aside (P1 A w0 own w' x m) := by
  refine (pwait h.it.t).mono ?_
  rintro e w' ⟨a, c, rfl, R, K⟩
  exact ⟨a, c, rfl, ⟨owns_readsK R.it⟩, ⟨h.it.quiet K.it⟩⟩

set_option maxHeartbeats 2000000 in
theorem fixed17 (hs : Sents 124 codeVars A w) : Calls Tryd.prog 12 #[] w fun e w' => e = .returned (.bool true) ∧ Aside (Keeps Nowhere w w') := by
  have G0 := Aside.mk (OnG.start hs)
  have N := Aside.mk (pnew_ok 2 (by decide) (by decide) w (fun _ => 0) 1 1)
  clear hs
  go_enter Tryd.func12, Tryd.ntmps12
  go_upto_region 4 with (go_at_call 8; refine N.it.mono ?_; rintro e w1 ⟨p, rfl, T1, _, K1⟩)
  have X1 : Aside (P1 A w (give (fun _ => 0) w.heap.size 1) w1 (ptr p) (Pm.new 2)) := ⟨G0.it.sn (I := fun _ => False) (Sn.quiet K1.it 1) (fun x => x), .inr ⟨p, rfl, T1.it⟩⟩
  clear N G0 T1
  generalize give (fun _ => 0) w.heap.size 1 = own1 at X1
  have A1 := Aside.mk (p1_ask X1)
  clear X1
  go_upto_region 5 with (first | (go_at_call 17; refine A1.it.mono ?_; clear A1; rintro e w2 ⟨ev2, rfl, C2, X2⟩; have e2 : ev2 = .nilIface := Coded.zero C2.out; subst e2) | fail)
  have A2 := Aside.mk (p1_ask X2)
  clear X2 C2
  go_upto_region 6 with (first | (go_at_call 17; refine A2.it.mono ?_; clear A2; rintro e w3 ⟨ev3, rfl, C3, X3⟩; have e3 : ev3 = .nilIface := Coded.zero C3.out; subst e3) | fail)
  have A3 := Aside.mk (p1_ask X3)
  clear X3 C3
  go_upto_region 7 with (first | (go_at_call 17; refine A3.it.mono ?_; clear A3; rintro e w4 ⟨ev4, rfl, C4, X4⟩) | fail)
  have A4 := Aside.mk (p1_heard X4 2 (by decide) (by decide))
  clear X4
  go_upto_region 8 with (first
    | (go_at_call 18; refine A5.it.mono ?_; clear A5; rintro e w6 ⟨ev6, own6, rfl, C6, X6⟩)
    | (go_at_call 18; refine A4.it.mono ?_; clear A4; rintro e w5 ⟨ev5, own5, rfl, C5, X5⟩; have e5 : ev5 = .nilIface := Coded.zero C5.out; subst e5; have A5 := Aside.mk (p1_heard X5 2 (by decide) (by decide)); clear C5 X5)
    | fail)
  have A6 := Aside.mk (p1_asked X6 9)
  clear X6
  go_upto_region 9 with (first | (go_at_call 20; refine A6.it.mono ?_; clear A6; rintro e w7 ⟨ev7, own7, rfl, C7, X7⟩; have e7 : ev7 = .nilIface := Coded.zero C7.out; subst e7) | fail)
  have A7 := Aside.mk (p1_repl X7)
  clear X7 C7
  go_upto_region 10 with (first | (go_at_call 19; refine A7.it.mono ?_; clear A7; rintro e w8 ⟨own8, rfl, X8⟩) | fail)
  have S8 := Aside.mk X8.it.g.sents
  have D4 := Aside.mk (code_of S8.it C4.out)
  have D6 := Aside.mk (code_of S8.it C6.out)
  have t1 : (Pm.new 2).askT = 1 := by decide
  have t2 : (Pm.new 2).ask.askT = 2 := by decide
  have q4 : (Pm.new 2).ask.ask.askC = 31 := by decide
  have q6 : ((Pm.new 2).ask.ask.ask.heard 2).heardC 2 = 22 := by decide
  have t9 : hd0 ((((Pm.new 2).ask.ask.ask.heard 2).heard 2).asked 9).ow = 9 := by decide
  have s9 : some0 ((((Pm.new 2).ask.ask.ask.heard 2).heard 2).asked 9).ow = true := by decide
  have hL : ((((Pm.new 2).ask.ask.ask.heard 2).heard 2).asked 9).repl.L.length = [1].length := by decide
  have hK : ks ((((Pm.new 2).ask.ask.ask.heard 2).heard 2).asked 9).repl.L = [1] := by decide
  have hA : ((((Pm.new 2).ask.ask.ask.heard 2).heard 2).asked 9).repl.an = [2] := by decide
  rw [q4] at D4
  rw [q6] at D6
  rw [t1, t2, t9, s9]
  generalize ((((Pm.new 2).ask.ask.ask.heard 2).heard 2).asked 9).repl = mm at hL hK hA X8
  have A8 := Aside.mk (p1_wait X8)
  rw [hL, hK] at A8
  have HA := Aside.mk hA
  clear X8 S8 C4 C6 hA hK hL t1 t2 q4 q6 t9 s9
  go_wp2_with (first
    | (go_at_call_of 9 ev4; refine D4.it.mono ?_; rintro e w9 ⟨rfl, hw⟩; subst hw)
    | (go_at_call_of 9 ev6; refine D6.it.mono ?_; rintro e w9 ⟨rfl, hw⟩; subst hw)
    | (go_at_call 15; refine E11.it.mono ?_; rintro e w12 ⟨rfl, K12⟩)
    | (go_at_call 15; refine E9.it.mono ?_; rintro e w10 ⟨rfl, K10⟩; have X10 := Aside.mk (X9.it.quiet (((Keeps.refl _ _).alloc _).trans K10.it)); have A10 := Aside.mk (p1_ans X10); rw [HA.it] at A10)
    | (go_at_call 16; refine A10.it.mono ?_; clear A10; rintro e w11 ⟨a11, c11, rfl, R11, X11⟩; have E11 := Aside.mk (same17 _ _ [2] (R11.it.later ((Keeps.refl Nowhere _).alloc (.cells #[e32 2] 37)) (fun _ _ x => x)) (reads_new1 w11 2)))
    | (go_at_call 11; refine A8.it.mono ?_; clear A8; rintro e w9 ⟨a9, c9, rfl, R9, X9⟩; have E9 := Aside.mk (same17 _ _ [1] (R9.it.later ((Keeps.refl Nowhere _).alloc (.cells #[e32 1] 37)) (fun _ _ x => x)) (reads_new1 w9 1)))
    | fail)
  go_ret
  exact ⟨rfl, ⟨(Keeps.ofBelow X11.it.g.g.bel).trans (((Keeps.refl _ _).alloc _).trans K12.it)⟩⟩
end Go.Proofs.YtnmpnajmhfonhaaDoor
