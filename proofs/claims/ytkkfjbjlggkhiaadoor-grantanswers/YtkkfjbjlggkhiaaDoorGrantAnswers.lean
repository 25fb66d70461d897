/-
  GrantAnswers, walked.
-/
import Derived.Test.YtkkfjbjlggkhiaaDoorGrantD
import Derived.Test.YtkkfjbjlggkhiaaDoorGrantSum
namespace Go.Proofs.YtkkfjbjlggkhiaaDoor
open Go.RowKit

section
variable {own own' : Nat → Nat} {w w' w0 : World} {rv : Value} {p rb : Nat} {W C R T C' R' T' l u o : Int} {I : Nat → Prop} {A : Nat → Addr} {X : List (Nat × TypeId × List Value)}
abbrev m8 (W C R T : Int) : List Value := [.int .i64 W, .int .i64 C, .int .i64 R, .int .i64 T]
/-- a Recv (or nil), the document's in a box of 2's, boxes of 0's -/
structure Rq8 (A : Nat → Addr) (w0 : World) (X : List (Nat × TypeId × List Value)) (rv : Value) (rb : Nat) (W C R T l u o : Int) (own : Nat → Nat) (w : World) : Prop where
  recv : RecvV own w rv W l u o
  ref : CellsO own 2 w rb 33 (m8 W C R T)
  g : OnF A w0 own w
  ex : ∀ x ∈ X, CellsO own 0 w x.1 x.2.1 x.2.2
theorem Rq8.sn (h : Rq8 A w0 X rv rb W C R T l u o own w) (k : Sn I own w own' w') (h0 : ¬ I 0) (h1 : ¬ I 1) (h2 : ¬ I 2) : Rq8 A w0 X rv rb W C R T l u o own' w' :=
  ⟨h.recv.sn k h1, h.ref.sn k h2, h.g.sn k h0, fun x hx => (h.ex x hx).sn k h0⟩
theorem Rq8.quiet (h : Aside (Rq8 A w0 X rv rb W C R T l u o own w)) (k : Keeps Nowhere w w') : Aside (Rq8 A w0 X rv rb W C R T l u o own w') := ⟨h.it.sn (I := fun _ => False) (Sn.same k) (fun x => x) (fun x => x) (fun x => x)⟩
theorem Rq8.box (h : Aside (Rq8 A w0 X rv rb W C R T l u o own w)) (t : TypeId) (cs : List Value) : Aside (Rq8 A w0 ((w.heap.size, t, cs) :: X) rv rb W C R T l u o (give own w.heap.size 0) (w.alloc (.cells cs.toArray t))) := by
  have k : Keeps Nowhere w (w.alloc (.cells cs.toArray t)) := (Keeps.refl _ _).alloc _
  have s0 : Sn (fun _ => False) own w (give own w.heap.size 0) (w.alloc (.cells cs.toArray t)) := Sn.quiet k 0
  have h' := h.it.sn s0 (fun x => x) (fun x => x) (fun x => x)
  refine ⟨⟨h'.recv, h'.ref, h'.g, fun x hx => ?_⟩⟩
  rcases List.mem_cons.1 hx with rfl | hx
  · exact ⟨Cells.new w _ _, give_new (Nat.le_refl _)⟩
  · exact h'.ex x hx
theorem Rq8.less (h : Aside (Rq8 A w0 X rv rb W C R T l u o own w)) : Aside (Rq8 A w0 [] rv rb W C R T l u o own w) := ⟨⟨h.it.recv, h.it.ref, h.it.g, fun _ hx => by cases hx⟩⟩
theorem Rq8.m (h : Aside (Rq8 A w0 X rv rb W C R T l u o own w)) : w.cell? ⟨rb, 0, none⟩ = some (.int .i64 W) ∧ w.cell? ⟨rb, 1, none⟩ = some (.int .i64 C) ∧ w.cell? ⟨rb, 2, none⟩ = some (.int .i64 R) ∧ w.cell? ⟨rb, 3, none⟩ = some (.int .i64 T) :=
  ⟨by rw [h.it.ref.1.cell]; rfl, by rw [h.it.ref.1.cell]; rfl, by rw [h.it.ref.1.cell]; rfl, by rw [h.it.ref.1.cell]; rfl⟩
theorem Rq8.op {b : Nat} {c : Bool} {n : Int} (h : Aside (Rq8 A w0 X rv rb W C R T l u o own w)) (hx : (b, 37, [Value.bool c, .int .i64 n]) ∈ X) : w.cell? ⟨b, 0, none⟩ = some (.bool c) ∧ w.cell? ⟨b, 1, none⟩ = some (.int .i64 n) :=
  ⟨by rw [(h.it.ex _ hx).1.cell]; rfl, by rw [(h.it.ex _ hx).1.cell]; rfl⟩
theorem Rq8.now {b : Nat} (h : Aside (Rq8 A w0 X rv rb W C R T l u o own w)) (hx : (b, 33, m8 W C' R' T') ∈ X) : w.cell? ⟨b, 0, none⟩ = some (.int .i64 W) ∧ w.cell? ⟨b, 1, none⟩ = some (.int .i64 C') ∧ w.cell? ⟨b, 2, none⟩ = some (.int .i64 R') ∧ w.cell? ⟨b, 3, none⟩ = some (.int .i64 T') :=
  ⟨by rw [(h.it.ex _ hx).1.cell]; rfl, by rw [(h.it.ex _ hx).1.cell]; rfl, by rw [(h.it.ex _ hx).1.cell]; rfl, by rw [(h.it.ex _ hx).1.cell]; rfl⟩
theorem Rq8.arrive (h : Aside (Rq8 A w0 X rv rb W C R T l u o own w)) (n : Int) : Calls Tryd.prog 17 #[rv, .int .i64 n] w fun e w' => ∃ v, e = .returned v ∧ Hid (Coded A v (arVE W l n)) ∧ Aside (Rq8 A w0 X rv rb W C R T (arVL W l n) (arVU W l u n) o own w') := by
  refine (arriveV h.it.recv n h.it.g.sents).mono ?_
  rintro e w' ⟨v, rfl, hv, Y⟩
  exact ⟨v, rfl, hv, ⟨Y.it.1, h.it.ref.sn Y.it.2 (by decide), h.it.g.sn Y.it.2 (by decide), fun x hx => (h.it.ex x hx).sn Y.it.2 (by decide)⟩⟩
theorem Rq8.read (h : Aside (Rq8 A w0 X rv rb W C R T l u o own w)) (n : Int) : Calls Tryd.prog 19 #[rv, .int .i64 n] w fun e w' => ∃ v, e = .returned (.tuple #[.int .u32 (rdVG W u o n), v]) ∧ Hid (Coded A v (rdVE W u n)) ∧ Aside (Rq8 A w0 X rv rb W C R T (rdVL W l u o n) (rdVU W u n) (rdVO W u o n) own w') := by
  refine (readV h.it.recv n h.it.g.sents).mono ?_
  rintro e w' ⟨v, rfl, hv, Y⟩
  exact ⟨v, rfl, hv, ⟨Y.it.1, h.it.ref.sn Y.it.2 (by decide), h.it.g.sn Y.it.2 (by decide), fun x hx => (h.it.ex x hx).sn Y.it.2 (by decide)⟩⟩
theorem Rq8.tells (h : Aside (Rq8 A w0 X rv rb W C R T l u o own w)) (hc : Aside (St8 W C R T l u o)) : Calls Tryd.prog 20 #[rv, ref8 W C R T] w fun e w' => e = .returned (.bool true) ∧ Aside (Rq8 A w0 X rv rb W C R T l u o own w') :=
  (tells8 h.it.recv hc.it.cnt).mono (by rintro e w' ⟨rfl, k⟩; exact ⟨rfl, Rq8.quiet h k.it⟩)
/-- what is granted lies within 31 bits -/
theorem rdVG_bounds {n : Int} (h : St8 W C R T l u o) : 0 ≤ rdVG W u o n ∧ rdVG W u o n ≤ 2147483647 := by
  unfold rdVG rdG
  rcases h.cs with ⟨h0, _⟩ | ⟨h1, h2, h3, h4, h5, h6⟩
  · rw [if_pos h0]; decide
  · rw [if_neg (by omega)]
    repeat' split
    all_goals omega
def put4 (rb : Nat) (W C R T : Int) (w : World) : World := (((w.setCell ⟨rb, 0, none⟩ (.int .i64 W)).setCell ⟨rb, 1, none⟩ (.int .i64 C)).setCell ⟨rb, 2, none⟩ (.int .i64 R)).setCell ⟨rb, 3, none⟩ (.int .i64 T)
theorem Rq8.put (h : Aside (Rq8 A w0 X rv rb W C R T l u o own w)) (C' R' T' : Int) : Aside (Rq8 A w0 X rv rb W C' R' T' l u o own (put4 rb W C' R' T' w)) := by
  have k : Sn (fun k => k = 2) own w own (put4 rb W C' R' T' w) := ⟨fun _ _ => rfl, ((((Keeps.refl _ _).setCell _ _ (fun _ => h.it.ref.2)).setCell _ _ (fun _ => h.it.ref.2)).setCell _ _ (fun _ => h.it.ref.2)).setCell _ _ (fun _ => h.it.ref.2)⟩
  exact ⟨⟨h.it.recv.sn k (by decide), ⟨(((h.it.ref.1.setCell 0 _).setCell 1 _).setCell 2 _).setCell 3 _, h.it.ref.2⟩, h.it.g.sn k (by decide), fun x hx => (h.it.ex x hx).sn k (by decide)⟩⟩
end

set_option maxRecDepth 20000 in
set_option maxHeartbeats 4000000 in
theorem grantAnswers_ok {A : Nat → Addr} (n : Int) (script : Value) (zs : List OpV8) (w : World) (hs : Sents 89 codeVars A w) (hz : Ops8Arg w script zs) (hn1 : 1 ≤ n) (hn2 : n ≤ 2147483647) :
    Calls Tryd.prog 4 #[.int .i64 n, script] w fun e w' => e = .returned (.bool true) ∧ Below w.heap.size w w' := by
  obtain ⟨sa, sc, rfl, hlc, hmx, hat⟩ := hz
  obtain ⟨M, hM⟩ : ∃ M, Aside (M = zs.length) := ⟨_, ⟨rfl⟩⟩
  rw [← hM.it] at hlc ⊢
  have HAT := Aside.mk (fun k hk => Ops8.read hM.it hat k hk)
  have hM63 : (M : Int) ≤ 9223372036854775807 := by
    have : sc ≤ 9223372036854775807 := hmx
    omega
  have HS := Aside.mk hs
  have F := Aside.mk (fixed8 hs.s8)
  have G0 := Aside.mk (OnF.start hs.s8)
  clear hs hat hmx
  have TH := Aside.mk (fun w => threshold_any n w)
  have TR := Aside.mk (fun w => ref8Thr n w)
  go_enter Tryd.func4, Tryd.ntmps4
  go_upto_region 3 with (first | (go_at_call 13; refine F.it.mono ?_; rintro e w1 ⟨rfl, b1⟩) | fail)
  have G1 := Aside.mk (G0.it.quiet (Keeps.ofBelow (S := Nowhere) b1.it))
  clear F G0 b1
  have N := Aside.mk (newG_ok n w1 (fun _ => 0) 1 hn1 hn2)
  have RN := Aside.mk (fun w => ref8New_ok n w hn1 hn2)
  go_upto_region 5 with (first
    | (go_at_call 9; refine N.it.mono ?_; rintro e w2 ⟨p, own2, rfl, X2⟩)
    | (go_at_call 14; refine (RN.it _).mono ?_; rintro e w3 ⟨rfl, k3⟩)
    | fail)
  obtain ⟨own4, W4, rb, hW4, hrb, P4⟩ : ∃ own4 W4 rb, W4 = w3.alloc (.cells #[.int .i64 n, .int .i64 0, .int .i64 0, .int .i64 0] 33) ∧ rb = w3.heap.size ∧ Aside (Rq8 A w [] (ptr p) rb n 0 0 0 n 0 0 own4 W4) := by
    have k : Keeps Nowhere w2 (w3.alloc (.cells #[.int .i64 n, .int .i64 0, .int .i64 0, .int .i64 0] 33)) := k3.it.alloc _
    have s1 : Sn (fun _ => False) own2 w2 (give own2 w3.heap.size 2) (w3.alloc (.cells #[.int .i64 n, .int .i64 0, .int .i64 0, .int .i64 0] 33)) := ⟨fun j hj => give_old (Nat.lt_of_lt_of_le hj k3.it.size), k.any⟩
    exact ⟨_, _, _, rfl, rfl, ⟨(.inl ⟨p, rfl, X2.it.1.recv.sn s1 (fun x => x)⟩), ⟨Cells.new w3 _ _, give_new (Nat.le_refl _)⟩, (G1.it.sn X2.it.2.2 (fun x => x)).sn s1 (fun x => x), fun _ hx => by cases hx⟩⟩
  rw [← hW4, ← hrb]
  clear hW4 hrb
  have S4 : Aside (St8 n 0 0 0 n 0 0) := ⟨⟨⟨by unfold wrap64; omega, by unfold wrap64; omega, by unfold wrap64; omega⟩, .inr ⟨hn1, hn2, by omega, by omega, by omega, by omega⟩⟩⟩
  have CD := Aside.mk (code_of (A := A) (v := .nilIface) (k := 0) (HS.it.later P4.it.g.g.bel) Coded.none)
  clear G1 N RN X2 k3
  go_upto_region 8 with (first
    | (go_at_call 10; refine CD.it.mono ?_; rintro e w' ⟨rfl, rfl⟩)
    | (go_at_call 12; refine (TH.it _).mono ?_; rintro e w' ⟨rfl, rfl⟩)
    | (go_at_call 15; refine (TR.it _).mono ?_; rintro e w' ⟨rfl, rfl⟩)
    | fail)
  clear CD TH TR
  go_loopw [50] (fun i wr => ∃ (k : Nat) (own : Nat → Nat) (C R T l u o : Int), i = .int .i64 k ∧ k ≤ M ∧ Aside (St8 n C R T l u o) ∧ Aside (Rq8 A w [] (ptr p) rb n C R T l u o own wr)) (fun i _ => M - (intOf i).toNat)
  case atStart => exact ⟨0, own4, _, _, _, _, _, _, rfl, Nat.zero_le _, S4, P4⟩
  case round =>
    obtain ⟨k, own, C, R, T, l, u, o, rfl, hk, ST, HP⟩ := hrel
    clear S4 P4
    have i3 : (0 : Int) ≤ k := by omega
    rcases Nat.eq_or_lt_of_le hk with rfl | hlt
    · obtain ⟨q0, q1, q2, q3⟩ := Rq8.m HP
      have TL := Aside.mk (Rq8.tells HP ST)
      go_wp2_with (first | (go_at_call 20; refine TL.it.mono ?_; rintro e w5 ⟨rfl, P5⟩) | fail)
      all_goals first
        | (exfalso; omega)
        | skip
      go_ret
      exact ⟨rfl, P5.it.g.g.bel⟩
    · obtain ⟨c, a, sb, so, ha, rfl, hr⟩ := HAT.it k hlt
      obtain ⟨r0, r1⟩ := hr _ _ _ HP.it.g.g rfl
      have i2 : (k : Int) < M := by omega
      have i4 : (k : Int) ≤ 9223372036854775806 := by omega
      clear hr hk
      go_upto_region 10 with fail
      obtain ⟨W1, hW1⟩ : ∃ W1, W1 = wr.alloc (.cells #[.bool c, .int .i64 a] 37) := ⟨_, rfl⟩
      obtain ⟨own1, R1⟩ : ∃ own1, Aside (Rq8 A w [(wr.heap.size, 37, [.bool c, .int .i64 a])] (ptr p) rb n C R T l u o own1 W1) := ⟨_, by rw [hW1]; exact Rq8.box HP _ _⟩
      rw [← hW1]
      obtain ⟨b, hb⟩ : ∃ b, Aside (b = wr.heap.size) := ⟨_, ⟨rfl⟩⟩
      rw [← hb.it] at R1 ⊢
      clear hW1 r0 r1 HP hb
      obtain ⟨b0, b1⟩ := Rq8.op R1 (List.mem_singleton.2 rfl)
      obtain ⟨q0, q1, q2, q3⟩ := Rq8.m R1
      cases c
      · have RA := Aside.mk (refReadV ST.it a W1)
        go_upto_region 16 with (first | (go_at_call 18; refine RA.it.mono ?_; rintro e w3 ⟨R2, T2, rfl, Y3⟩) | fail)
        obtain ⟨own5, W5, tb, hW5, htb, R5⟩ : ∃ own5 W5 tb, W5 = w3.alloc (.cells #[.int .i64 n, .int .i64 C, .int .i64 R2, .int .i64 T2] 33) ∧ tb = w3.heap.size ∧ Aside (Rq8 A w [(tb, 33, m8 n C R2 T2), (b, 37, [.bool false, .int .i64 a])] (ptr p) rb n C R T l u o own5 W5) := ⟨_, _, _, rfl, rfl, Rq8.box (Rq8.quiet R1 Y3.it.2) _ _⟩
        rw [← hW5, ← htb]
        have ST2 := Aside.mk Y3.it.1
        clear hW5 htb q0 q1 q2 q3 b0 b1 R1 RA Y3
        obtain ⟨b0, b1⟩ := Rq8.op R5 (List.mem_cons_of_mem _ (List.mem_singleton.2 rfl))
        have AR := Aside.mk (Rq8.read R5 a)
        have g1 : 0 ≤ rdVG n u o a ∧ rdVG n u o a ≤ 2147483647 := rdVG_bounds ST.it
        obtain ⟨g, hg⟩ : ∃ g, g = rdVG n u o a := ⟨_, rfl⟩
        rw [← hg] at AR g1 ⊢
        clear hg
        obtain ⟨g1, g2⟩ := g1
        go_upto_region 17 with (first | (go_at_call 19; refine AR.it.mono ?_; rintro e w6 ⟨v6, rfl, hv6, R6⟩) | fail)
        have CD := Aside.mk (code_of (A := A) (HS.it.later R6.it.g.g.bel) hv6.out)
        obtain ⟨t0, t1, t2, t3⟩ := Rq8.now R6 (List.mem_cons_self ..)
        obtain ⟨q0, q1, q2, q3⟩ := Rq8.m R6
        have f0 := R6.it.ref.1.frozen 0
        have f1 := R6.it.ref.1.frozen 1
        have f2 := R6.it.ref.1.frozen 2
        have f3 := R6.it.ref.1.frozen 3
        have P7 := Rq8.put R6 C R2 T2
        obtain ⟨W7, hW7⟩ : ∃ W7, W7 = put4 rb n C R2 T2 w6 := ⟨_, rfl⟩
        rw [← hW7] at P7
        unfold put4 at hW7
        go_upto_region 20 with (first | (go_at_call 10; refine CD.it.mono ?_; rintro e w' ⟨rfl, rfl⟩) | fail)
        all_goals first
          | (exfalso; omega)
          | skip
        rw [← hW7]
        clear hW7 t0 t1 t2 t3 q0 q1 q2 q3 f0 f1 f2 f3 CD R6 R5 b0 b1
        obtain ⟨q0, q1, q2, q3⟩ := Rq8.m P7
        have TL := Aside.mk (Rq8.tells P7 ST2)
        go_wp2_with (first | (go_at_call 20; refine TL.it.mono ?_; rintro e w8 ⟨rfl, P8⟩) | fail)
        all_goals first
          | (exfalso; omega)
          | skip
        go_roundw
        case rel => exact ⟨k + 1, own5, _, _, _, _, _, _, by go_num, by omega, ST2, Rq8.less P8⟩
        case measure => simp [intOf]; omega
      · have RA := Aside.mk (refArriveV ST.it a W1)
        go_upto_region 12 with (first | (go_at_call 16; refine RA.it.mono ?_; rintro e w3 ⟨C2, rfl, Y3⟩) | fail)
        obtain ⟨own5, W5, tb, hW5, htb, R5⟩ : ∃ own5 W5 tb, W5 = w3.alloc (.cells #[.int .i64 n, .int .i64 C2, .int .i64 R, .int .i64 T] 33) ∧ tb = w3.heap.size ∧ Aside (Rq8 A w [(tb, 33, m8 n C2 R T), (b, 37, [.bool true, .int .i64 a])] (ptr p) rb n C R T l u o own5 W5) := ⟨_, _, _, rfl, rfl, Rq8.box (Rq8.quiet R1 Y3.it.2) _ _⟩
        rw [← hW5, ← htb]
        have ST2 := Aside.mk Y3.it.1
        clear hW5 htb q0 q1 q2 q3 b0 b1 R1 RA Y3 ST
        obtain ⟨b0, b1⟩ := Rq8.op R5 (List.mem_cons_of_mem _ (List.mem_singleton.2 rfl))
        have AR := Aside.mk (Rq8.arrive R5 a)
        have CD := Aside.mk (fun w' (own' : Nat → Nat) v (hg : OnF A w own' w') (hv : Hid (Coded A v (arVE n l a))) => code_of (A := A) (HS.it.later hg.g.bel) hv.out)
        go_upto_region 14 with (first
          | (go_at_call 17; refine AR.it.mono ?_; rintro e w6 ⟨v6, rfl, hv6, R6⟩)
          | (go_at_call 10; refine (CD.it _ _ _ R6.it.g hv6).mono ?_; rintro e w9 ⟨rfl, rfl⟩) | fail)
        all_goals first
          | (exfalso; omega)
          | skip
        obtain ⟨t0, t1, t2, t3⟩ := Rq8.now R6 (List.mem_cons_self ..)
        obtain ⟨q0, q1, q2, q3⟩ := Rq8.m R6
        have f0 := R6.it.ref.1.frozen 0
        have f1 := R6.it.ref.1.frozen 1
        have f2 := R6.it.ref.1.frozen 2
        have f3 := R6.it.ref.1.frozen 3
        have P7 := Rq8.put R6 C2 R T
        obtain ⟨W7, hW7⟩ : ∃ W7, W7 = put4 rb n C2 R T w9 := ⟨_, rfl⟩
        rw [← hW7] at P7
        unfold put4 at hW7
        go_upto_region 20 with fail
        rw [← hW7]
        clear hW7 t0 t1 t2 t3 q0 q1 q2 q3 f0 f1 f2 f3 CD R6 R5 b0 b1
        obtain ⟨q0, q1, q2, q3⟩ := Rq8.m P7
        have TL := Aside.mk (Rq8.tells P7 ST2)
        go_wp2_with (first | (go_at_call 20; refine TL.it.mono ?_; rintro e w8 ⟨rfl, P8⟩) | fail)
        all_goals first
          | (exfalso; omega)
          | skip
        go_roundw
        case rel => exact ⟨k + 1, own5, _, _, _, _, _, _, by go_num, by omega, ST2, Rq8.less P8⟩
        case measure => simp [intOf]; omega
set_option maxRecDepth 20000 in
set_option maxHeartbeats 4000000 in
theorem grantAnswers_no {A : Nat → Addr} (n : Int) (script : Value) (zs : List OpV8) (w : World) (hs : Sents 89 codeVars A w) (hz : Ops8Arg w script zs) (hn : n < 1 ∨ 2147483647 < n) :
    Calls Tryd.prog 4 #[.int .i64 n, script] w fun e w' => e = .returned (.bool true) ∧ Below w.heap.size w w' := by
  obtain ⟨sa, sc, rfl, hlc, hmx, hat⟩ := hz
  obtain ⟨M, hM⟩ : ∃ M, Aside (M = zs.length) := ⟨_, ⟨rfl⟩⟩
  rw [← hM.it] at hlc ⊢
  have HAT := Aside.mk (fun k hk => Ops8.read hM.it hat k hk)
  have hM63 : (M : Int) ≤ 9223372036854775807 := by
    have : sc ≤ 9223372036854775807 := hmx
    omega
  have HS := Aside.mk hs
  have F := Aside.mk (fixed8 hs.s8)
  have G0 := Aside.mk (OnF.start hs.s8)
  clear hs hat hmx
  have TH := Aside.mk (fun w => threshold_any n w)
  have TR := Aside.mk (fun w => ref8Thr n w)
  go_enter Tryd.func4, Tryd.ntmps4
  go_upto_region 3 with (first | (go_at_call 13; refine F.it.mono ?_; rintro e w1 ⟨rfl, b1⟩) | fail)
  have G1 := Aside.mk (G0.it.quiet (Keeps.ofBelow (S := Nowhere) b1.it))
  clear F G0 b1
  have N := Aside.mk (newG_no n w1 G1.it.sents hn)
  have RN := Aside.mk (fun w => ref8New_no n w hn)
  go_upto_region 5 with (first
    | (go_at_call 9; refine N.it.mono ?_; rintro e w2 ⟨rfl, k2⟩)
    | (go_at_call 14; refine (RN.it _).mono ?_; rintro e w3 ⟨rfl, k3⟩)
    | fail)
  obtain ⟨own4, W4, rb, hW4, hrb, P4⟩ : ∃ own4 W4 rb, W4 = w3.alloc (.cells #[.int .i64 0, .int .i64 0, .int .i64 0, .int .i64 0] 33) ∧ rb = w3.heap.size ∧ Aside (Rq8 A w [] (.pointer none) rb 0 0 0 0 0 0 0 own4 W4) := by
    have k : Keeps Nowhere w2 (w3.alloc (.cells #[.int .i64 0, .int .i64 0, .int .i64 0, .int .i64 0] 33)) := k3.it.alloc _
    have s1 : Sn (fun _ => False) (fun _ => 0) w2 (give (fun _ => 0) w3.heap.size 2) (w3.alloc (.cells #[.int .i64 0, .int .i64 0, .int .i64 0, .int .i64 0] 33)) := ⟨fun j hj => give_old (Nat.lt_of_lt_of_le hj k3.it.size), k.any⟩
    exact ⟨_, _, _, rfl, rfl, ⟨(.inr ⟨rfl, rfl, rfl, rfl, rfl⟩), ⟨Cells.new w3 _ _, give_new (Nat.le_refl _)⟩, (G1.it.quiet k2.it).sn s1 (fun x => x), fun _ hx => by cases hx⟩⟩
  rw [← hW4, ← hrb]
  clear hW4 hrb
  have S4 : Aside (St8 0 0 0 0 0 0 0) := ⟨⟨⟨by unfold wrap64; omega, by unfold wrap64; omega, by unfold wrap64; omega⟩, .inl ⟨rfl, rfl, rfl, rfl, rfl, rfl, rfl⟩⟩⟩
  have CD := Aside.mk (code_of (A := A) (HS.it.later P4.it.g.g.bel) (Coded.mk 1 2 (by decide) (by decide) rfl))
  clear G1 N RN k2 k3 hn
  go_upto_region 8 with (first
    | (go_at_call 10; refine CD.it.mono ?_; rintro e w' ⟨rfl, rfl⟩)
    | (go_at_call 12; refine (TH.it _).mono ?_; rintro e w' ⟨rfl, rfl⟩)
    | (go_at_call 15; refine (TR.it _).mono ?_; rintro e w' ⟨rfl, rfl⟩)
    | fail)
  clear CD TH TR
  go_loopw [50] (fun i wr => ∃ (k : Nat) (own : Nat → Nat) (C R T l u o : Int), i = .int .i64 k ∧ k ≤ M ∧ Aside (St8 0 C R T l u o) ∧ Aside (Rq8 A w [] (.pointer none) rb 0 C R T l u o own wr)) (fun i _ => M - (intOf i).toNat)
  case atStart => exact ⟨0, own4, _, _, _, _, _, _, rfl, Nat.zero_le _, S4, P4⟩
  case round =>
    obtain ⟨k, own, C, R, T, l, u, o, rfl, hk, ST, HP⟩ := hrel
    clear S4 P4
    have i3 : (0 : Int) ≤ k := by omega
    rcases Nat.eq_or_lt_of_le hk with rfl | hlt
    · obtain ⟨q0, q1, q2, q3⟩ := Rq8.m HP
      have TL := Aside.mk (Rq8.tells HP ST)
      go_wp2_with (first | (go_at_call 20; refine TL.it.mono ?_; rintro e w5 ⟨rfl, P5⟩) | fail)
      all_goals first
        | (exfalso; omega)
        | skip
      go_ret
      exact ⟨rfl, P5.it.g.g.bel⟩
    · obtain ⟨c, a, sb, so, ha, rfl, hr⟩ := HAT.it k hlt
      obtain ⟨r0, r1⟩ := hr _ _ _ HP.it.g.g rfl
      have i2 : (k : Int) < M := by omega
      have i4 : (k : Int) ≤ 9223372036854775806 := by omega
      clear hr hk
      go_upto_region 10 with fail
      obtain ⟨W1, hW1⟩ : ∃ W1, W1 = wr.alloc (.cells #[.bool c, .int .i64 a] 37) := ⟨_, rfl⟩
      obtain ⟨own1, R1⟩ : ∃ own1, Aside (Rq8 A w [(wr.heap.size, 37, [.bool c, .int .i64 a])] (.pointer none) rb 0 C R T l u o own1 W1) := ⟨_, by rw [hW1]; exact Rq8.box HP _ _⟩
      rw [← hW1]
      obtain ⟨b, hb⟩ : ∃ b, Aside (b = wr.heap.size) := ⟨_, ⟨rfl⟩⟩
      rw [← hb.it] at R1 ⊢
      clear hW1 r0 r1 HP hb
      obtain ⟨b0, b1⟩ := Rq8.op R1 (List.mem_singleton.2 rfl)
      obtain ⟨q0, q1, q2, q3⟩ := Rq8.m R1
      cases c
      · have RA := Aside.mk (refReadV ST.it a W1)
        go_upto_region 16 with (first | (go_at_call 18; refine RA.it.mono ?_; rintro e w3 ⟨R2, T2, rfl, Y3⟩) | fail)
        obtain ⟨own5, W5, tb, hW5, htb, R5⟩ : ∃ own5 W5 tb, W5 = w3.alloc (.cells #[.int .i64 0, .int .i64 C, .int .i64 R2, .int .i64 T2] 33) ∧ tb = w3.heap.size ∧ Aside (Rq8 A w [(tb, 33, m8 0 C R2 T2), (b, 37, [.bool false, .int .i64 a])] (.pointer none) rb 0 C R T l u o own5 W5) := ⟨_, _, _, rfl, rfl, Rq8.box (Rq8.quiet R1 Y3.it.2) _ _⟩
        rw [← hW5, ← htb]
        have ST2 := Aside.mk Y3.it.1
        clear hW5 htb q0 q1 q2 q3 b0 b1 R1 RA Y3
        obtain ⟨b0, b1⟩ := Rq8.op R5 (List.mem_cons_of_mem _ (List.mem_singleton.2 rfl))
        have AR := Aside.mk (Rq8.read R5 a)
        have g1 : 0 ≤ rdVG 0 u o a ∧ rdVG 0 u o a ≤ 2147483647 := rdVG_bounds ST.it
        obtain ⟨g, hg⟩ : ∃ g, g = rdVG 0 u o a := ⟨_, rfl⟩
        rw [← hg] at AR g1 ⊢
        clear hg
        obtain ⟨g1, g2⟩ := g1
        go_upto_region 17 with (first | (go_at_call 19; refine AR.it.mono ?_; rintro e w6 ⟨v6, rfl, hv6, R6⟩) | fail)
        have CD := Aside.mk (code_of (A := A) (HS.it.later R6.it.g.g.bel) hv6.out)
        obtain ⟨t0, t1, t2, t3⟩ := Rq8.now R6 (List.mem_cons_self ..)
        obtain ⟨q0, q1, q2, q3⟩ := Rq8.m R6
        have f0 := R6.it.ref.1.frozen 0
        have f1 := R6.it.ref.1.frozen 1
        have f2 := R6.it.ref.1.frozen 2
        have f3 := R6.it.ref.1.frozen 3
        have P7 := Rq8.put R6 C R2 T2
        obtain ⟨W7, hW7⟩ : ∃ W7, W7 = put4 rb 0 C R2 T2 w6 := ⟨_, rfl⟩
        rw [← hW7] at P7
        unfold put4 at hW7
        go_upto_region 20 with (first | (go_at_call 10; refine CD.it.mono ?_; rintro e w' ⟨rfl, rfl⟩) | fail)
        all_goals first
          | (exfalso; omega)
          | skip
        rw [← hW7]
        clear hW7 t0 t1 t2 t3 q0 q1 q2 q3 f0 f1 f2 f3 CD R6 R5 b0 b1
        obtain ⟨q0, q1, q2, q3⟩ := Rq8.m P7
        have TL := Aside.mk (Rq8.tells P7 ST2)
        go_wp2_with (first | (go_at_call 20; refine TL.it.mono ?_; rintro e w8 ⟨rfl, P8⟩) | fail)
        all_goals first
          | (exfalso; omega)
          | skip
        go_roundw
        case rel => exact ⟨k + 1, own5, _, _, _, _, _, _, by go_num, by omega, ST2, Rq8.less P8⟩
        case measure => simp [intOf]; omega
      · have RA := Aside.mk (refArriveV ST.it a W1)
        go_upto_region 12 with (first | (go_at_call 16; refine RA.it.mono ?_; rintro e w3 ⟨C2, rfl, Y3⟩) | fail)
        obtain ⟨own5, W5, tb, hW5, htb, R5⟩ : ∃ own5 W5 tb, W5 = w3.alloc (.cells #[.int .i64 0, .int .i64 C2, .int .i64 R, .int .i64 T] 33) ∧ tb = w3.heap.size ∧ Aside (Rq8 A w [(tb, 33, m8 0 C2 R T), (b, 37, [.bool true, .int .i64 a])] (.pointer none) rb 0 C R T l u o own5 W5) := ⟨_, _, _, rfl, rfl, Rq8.box (Rq8.quiet R1 Y3.it.2) _ _⟩
        rw [← hW5, ← htb]
        have ST2 := Aside.mk Y3.it.1
        clear hW5 htb q0 q1 q2 q3 b0 b1 R1 RA Y3 ST
        obtain ⟨b0, b1⟩ := Rq8.op R5 (List.mem_cons_of_mem _ (List.mem_singleton.2 rfl))
        have AR := Aside.mk (Rq8.arrive R5 a)
        have CD := Aside.mk (fun w' (own' : Nat → Nat) v (hg : OnF A w own' w') (hv : Hid (Coded A v (arVE 0 l a))) => code_of (A := A) (HS.it.later hg.g.bel) hv.out)
        go_upto_region 14 with (first
          | (go_at_call 17; refine AR.it.mono ?_; rintro e w6 ⟨v6, rfl, hv6, R6⟩)
          | (go_at_call 10; refine (CD.it _ _ _ R6.it.g hv6).mono ?_; rintro e w9 ⟨rfl, rfl⟩) | fail)
        all_goals first
          | (exfalso; omega)
          | skip
        obtain ⟨t0, t1, t2, t3⟩ := Rq8.now R6 (List.mem_cons_self ..)
        obtain ⟨q0, q1, q2, q3⟩ := Rq8.m R6
        have f0 := R6.it.ref.1.frozen 0
        have f1 := R6.it.ref.1.frozen 1
        have f2 := R6.it.ref.1.frozen 2
        have f3 := R6.it.ref.1.frozen 3
        have P7 := Rq8.put R6 C2 R T
        obtain ⟨W7, hW7⟩ : ∃ W7, W7 = put4 rb 0 C2 R T w9 := ⟨_, rfl⟩
        rw [← hW7] at P7
        unfold put4 at hW7
        go_upto_region 20 with fail
        rw [← hW7]
        clear hW7 t0 t1 t2 t3 q0 q1 q2 q3 f0 f1 f2 f3 CD R6 R5 b0 b1
        obtain ⟨q0, q1, q2, q3⟩ := Rq8.m P7
        have TL := Aside.mk (Rq8.tells P7 ST2)
        go_wp2_with (first | (go_at_call 20; refine TL.it.mono ?_; rintro e w8 ⟨rfl, P8⟩) | fail)
        all_goals first
          | (exfalso; omega)
          | skip
        go_roundw
        case rel => exact ⟨k + 1, own5, _, _, _, _, _, _, by go_num, by omega, ST2, Rq8.less P8⟩
        case measure => simp [intOf]; omega
theorem grantAnswers_walk {A : Nat → Addr} (n : Int) (script : Value) (zs : List OpV8) (w : World) (hs : Sents 89 codeVars A w) (hz : Ops8Arg w script zs) :
    Calls Tryd.prog 4 #[.int .i64 n, script] w fun e w' => e = .returned (.bool true) ∧ Below w.heap.size w w' := by
  by_cases hn : n < 1 ∨ 2147483647 < n
  · exact grantAnswers_no n script zs w hs hz hn
  · exact grantAnswers_ok n script zs w hs hz (by omega) (by omega)
end Go.Proofs.YtkkfjbjlggkhiaaDoor
