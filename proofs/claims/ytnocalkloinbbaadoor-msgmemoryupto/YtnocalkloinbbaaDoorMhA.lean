/-
  culvertlaw27.fixed; a law's world with its reader
-/
import Derived.Test.YtnocalkloinbbaaDoorMgE
import Derived.Test.YtnocalkloinbbaaDoorMgF
import Derived.Test.YtnocalkloinbbaaDoorMsG
import Derived.Lib.SlBytesConst
namespace Go.Proofs.YtnocalkloinbbaaDoor
open Go.RowKit

section
variable {A : Nat → Addr} {w w' W w0 : World} {own own' : Nat → Nat} {i j d d2 p most : Nat} {h B bs l : List Int} {dead : Bool} {v : Value} {ms : List (List Int)}
theorem rd_conv27 {x : Value} {ns : List Int} (h : Rd W x ns) : (convert 29 9 x).run Tryd.prog W = .ok (.string (strOf ns)) W := run_bytesStr W 29 9 5 x ns Tryd.underlying29 Tryd.underlying5 Tryd.underlying9 h.holds
theorem rd_const27 (w : World) (ns : List Int) (fr : Nat × Nat) : Rd (w.alloc (.cells (bv ns).toArray 5 fr)) (.slice (some ⟨w.heap.size, 0, none⟩) ns.length ns.length) ns := by
  have h := reads_mark Nowhere w 5 (bv ns) fr (fun x => x)
  rw [bv_length] at h
  exact ⟨h, fun l c e => by injection e with e; cases e⟩
/-- a law's world with a reader: 1's and 2's -/
structure Lm (A : Nat → Addr) (w0 : World) (own : Nat → Nat) (W : World) (p most : Nat) (l : List Int) (dead : Bool) : Prop where
  g : OnG A w0 own W
  r : RdrO own 1 W p most l dead
theorem Lm.sn {I : Nat → Prop} (L : Lm A w0 own W p most l dead) (s : Sn I own W own' w') (h0 : ¬ I 0) (h1 : ¬ I 1) (h2 : ¬ I 2) : Lm A w0 own' w' p most l dead := ⟨L.g.sn s h0, L.r.sx s.sx h1 h2⟩
theorem Lm.quiet (L : Lm A w0 own W p most l dead) (k : Keeps Nowhere W w') : Lm A w0 own w' p most l dead := L.sn (I := fun _ => False) (Sn.same k) (fun x => x) (fun x => x) (fun x => x)
theorem who : Who 1 3 4 10 := ⟨by decide, by decide, by decide, by decide, by decide, by decide, by decide, by decide, by decide⟩
theorem lm_start (hs : Sents 74 codeVars A w) (hm : most ≤ 1048576) : Calls Tryd.prog 5 #[.int .i64 most] w fun e w' => ∃ p own, e = .returned (.tuple #[ptr p, .nilIface]) ∧ Aside (Lm A w own w' p most [] false) ∧ Aside (Keeps Nowhere w w') := by
  refine (newM_ok hm (fun _ => 0) 1).mono ?_
  rintro e w' ⟨p, rfl, R, K⟩
  exact ⟨p, _, rfl, ⟨(OnG.start hs).sn (I := fun _ => False) (Sn.quiet K.it 1) (fun x => x), R.it⟩, K⟩
/-- Feed of bytes in a block that is 3's -/
theorem lm_feed (L : Lm A w0 own W p most l dead) {q : Option Addr} {ln c : Nat} (R : RdO own 3 W (.slice q ln c) bs) (hb : AreBytes bs) (hL : bs.length ≤ 2199023255552) : Calls Tryd.prog 8 #[ptr p, .slice q ln c] W fun e w' => ∃ fq fl fc ev own', e = .returned (.tuple #[.slice fq fl fc, ev]) ∧ Hid (Coded A ev (codeF dead (outM most l dead bs))) ∧ Aside (Lm A w0 own' w' p most (outM most l dead bs).rest (outM most l dead bs).dead ∧ RowM own' 4 10 w' (.slice fq fl fc) (outM most l dead bs).ms ∧ Sx (WhoI 1 4) own W own' w') := by
  refine (feedM L.g L.r R hb who hL).mono ?_
  rintro e w' ⟨fq, fl, fc, ev, own', rfl, C, X⟩
  exact ⟨fq, fl, fc, ev, own', rfl, C, ⟨⟨X.it.1, X.it.2.2.1⟩, X.it.2.1, X.it.2.2.2⟩⟩
/-- Feed of a new constant -/
theorem lm_feedC (L : Lm A w0 own W p most l dead) (bs : List Int) (n : Nat) (hn : bs.length = n) (fr : Nat × Nat) (hb : AreBytes bs) (hL : bs.length ≤ 1000) (cells : Array Value) (hc : cells = (bv bs).toArray) (O : MOut) (hO : outM most l dead bs = O) : Calls Tryd.prog 8 #[ptr p, .slice (some ⟨W.heap.size, 0, none⟩) n n] (W.alloc (.cells cells 5 fr)) fun e w' => ∃ fq fl fc ev own', e = .returned (.tuple #[.slice fq fl fc, ev]) ∧ Hid (Coded A ev (codeF dead O)) ∧ Aside (Lm A w0 own' w' p most O.rest O.dead ∧ RowM own' 4 10 w' (.slice fq fl fc) O.ms ∧ Sx (WhoI 1 4) (give own W.heap.size 3) (W.alloc (.cells cells 5 fr)) own' w') := by
  subst hc hn hO
  have k : Keeps Nowhere W (W.alloc (.cells (bv bs).toArray 5 fr)) := (Keeps.refl _ _).alloc _
  have L1 : Lm A w0 (give own W.heap.size 3) (W.alloc (.cells (bv bs).toArray 5 fr)) p most l dead := L.sn (I := fun _ => False) (Sn.quiet k 3) (fun x => x) (fun x => x) (fun x => x)
  have R : RdO (give own W.heap.size 3) 3 (W.alloc (.cells (bv bs).toArray 5 fr)) (.slice (some ⟨W.heap.size, 0, none⟩) bs.length bs.length) bs := ⟨rd_const27 W bs fr, fun g hg => by
    simp only [Value.ownBlock, Option.some.injEq] at hg
    subst hg
    exact ⟨by rw [World.size_alloc]; omega, give_new (Nat.le_refl _)⟩⟩
  refine (lm_feed L1 R hb (by omega)).mono ?_
  rintro e w' ⟨fq, fl, fc, ev, own', rfl, C, X⟩
  exact ⟨fq, fl, fc, ev, own', rfl, C, ⟨X.it.1, X.it.2.1, X.it.2.2⟩⟩
theorem RowM.rdL (h : RowM own d d2 w v ms) : RdL (fun _ => 9) 9 w v ms := by
  obtain ⟨vs, h1, h2, h3, h4⟩ := h
  obtain ⟨r1, r2⟩ := owns_reads h1
  refine ⟨vs, r1.mono (fun _ x _ => x.elim), r2, fun g hg => ⟨owns_lt h1 g hg, rfl⟩, h3.each (fun _ _ _ => rfl)⟩
theorem lit2 (W : World) (fr : Nat × Nat) : RdL (fun _ => 9) 9 (((W.alloc (.cells #[.int .u8 97, .int .u8 98] 5 fr)).alloc (.cells #[] 5)).alloc (.cells #[.slice (some ⟨W.heap.size, 0, none⟩) 2 2, .slice (some ⟨W.heap.size + 1, 0, none⟩) 0 0] 29)) (.slice (some ⟨W.heap.size + 2, 0, none⟩) 2 2) [[97, 98], []] := by
  have k2 : Keeps Nowhere (W.alloc (.cells #[.int .u8 97, .int .u8 98] 5 fr)) (((W.alloc (.cells #[.int .u8 97, .int .u8 98] 5 fr)).alloc (.cells #[] 5)).alloc (.cells #[.slice (some ⟨W.heap.size, 0, none⟩) 2 2, .slice (some ⟨W.heap.size + 1, 0, none⟩) 0 0] 29)) := ((Keeps.refl _ _).alloc _).alloc _
  have r1 := (rd_const27 W [97, 98] fr).later k2.bel
  have hsz : ((W.alloc (.cells #[.int .u8 97, .int .u8 98] 5 fr)).alloc (.cells #[] 5)).heap.size = W.heap.size + 2 := by simp
  have C := Cells.new ((W.alloc (.cells #[.int .u8 97, .int .u8 98] 5 fr)).alloc (.cells #[] 5)) 29 [.slice (some ⟨W.heap.size, 0, none⟩) 2 2, .slice (some ⟨W.heap.size + 1, 0, none⟩) 0 0]
  rw [hsz] at C
  refine ⟨[.slice (some ⟨W.heap.size, 0, none⟩) 2 2, .slice (some ⟨W.heap.size + 1, 0, none⟩) 0 0], ⟨_, 2, rfl, by simp, fun k u hk => ⟨_, rfl, fun x => x, ?_⟩⟩, fun l c e => (by cases e), fun g hg => ?_, ⟨r1, fun g hg => ?_⟩, ⟨⟨⟨_, 0, rfl, by simp [bv], fun k u hk => by simp [bv] at hk⟩, fun l c e => by cases e⟩, fun g hg => ?_⟩, trivial⟩
  · rw [add_none, Nat.zero_add, show (some u) = _ from hk.symm]
    exact C.cell k
  all_goals
    simp only [Value.ownBlock, Option.some.injEq] at hg
    subst hg
    exact ⟨by simp <;> omega, rfl⟩
theorem areBytes27 (l : List Int) (h : l.all (fun x => decide (0 ≤ x ∧ x ≤ 255)) = true) : AreBytes l := fun x hx => by
  have := List.all_eq_true.1 h x hx
  simpa using this
theorem fx27_1 : outM 200 [] false [2, 97] = ⟨[], [2, 97], false⟩ := by
  unfold outM
  rw [if_neg (by decide)]
  exact parseM_part (n := 2) (k := 1) rfl (by decide)
theorem fx27_2 : outM 200 [2, 97] false [98, 0, 1] = ⟨[[97, 98], []], [1], false⟩ := by
  unfold outM
  rw [if_neg (by decide)]
  have e : ([2, 97] ++ [98, 0, 1] : List Int) = [2, 97, 98, 0, 1] := rfl
  rw [e, parseM_more (n := 2) (k := 1) rfl (by decide)]
  have e2 : ([2, 97, 98, 0, 1] : List Int).drop (1 + 2) = [0, 1] := rfl
  rw [e2, parseM_more (n := 0) (k := 1) rfl (by decide)]
  have e3 : ([0, 1] : List Int).drop (1 + 0) = [1] := rfl
  rw [e3, parseM_part (n := 1) (k := 1) rfl (by decide)]
  rfl
set_option maxRecDepth 100000 in
set_option maxHeartbeats 2000000 in
theorem fixed27 (hs : Sents 74 codeVars A w) : Calls Tryd.prog 4 #[] w fun e w' => e = .returned (.bool true) ∧ Aside (Below w.heap.size w w') := by
  have HS := Aside.mk hs
  have K0 : Aside (Keeps Nowhere w (w.alloc (.cells #[.int .u8 97, .int .u8 98, .int .u8 99] 5 (3, 4)))) := ⟨(Keeps.refl _ _).alloc _⟩
  have EN := Aside.mk (encodeM (most := 3) (rd_const27 w [97, 98, 99] (3, 4)) (by decide) (hs.later K0.it.bel))
  have ee : encE [97, 98, 99] 3 = 0 := by decide
  have ev : encV [97, 98, 99] 3 = [3, 97, 98, 99] := by decide
  rw [ee, ev] at EN
  have cv0 := Lib.run_convert_bytes_const (P := Tryd.prog) w 29 5 #[.int .u8 97, .int .u8 98, .int .u8 99] 3 3 Tryd.underlying29 Tryd.underlying5
  clear hs ee ev
  go_enter Tryd.func4, Tryd.ntmps4
  go_upto_region 2 with (first | (go_at_call 15; refine EN.it.mono ?_; clear EN; rintro e w1 ⟨q1, l1, c1, ev1, rfl, C1, O1, K1⟩) | fail)
  have e1 : ev1 = .nilIface := Coded.zero C1.out
  subst e1
  have KW1 : Aside (Keeps Nowhere w w1) := ⟨K0.it.trans K1.it⟩
  have CVb : (convert 29 9 (.slice q1 l1 c1)).run Tryd.prog w1 = .ok (.string ⟨#[3, 97, 98, 99]⟩) w1 := rd_conv27 O1.it.rd
  have NW := Aside.mk (lm_start (A := A) (most := 200) (HS.it.later KW1.it.bel) (by decide))
  have CV2 : ∀ W, Keeps Nowhere w1 W → (convert 29 9 (.slice q1 l1 c1)).run Tryd.prog W = .ok (.string ⟨#[3, 97, 98, 99]⟩) W := fun W k => rd_conv27 (O1.it.rd.later k.bel)
  have CV2 := Aside.mk CV2
  clear O1 C1 CVb
  go_upto_region 3 with (first | (go_at_call 5; refine NW.it.mono ?_; clear NW; rintro e w2 ⟨p, own2, rfl, L2, K2⟩) | fail)
  have CV3 := CV2.it w2 K2.it
  have KL : Aside (Keeps Nowhere w w2) := ⟨KW1.it.trans K2.it⟩
  have G2 := Aside.mk (HS.it.later KL.it.bel)
  have KW := KW1
  clear CV2 K2 KW1 K1 K0
  have F1 := Aside.mk (lm_feedC L2.it [2, 97] 2 rfl (2, 3) (areBytes27 _ (by decide)) (by decide) #[.int .u8 2, .int .u8 97] rfl _ fx27_1)
  have cv1 := Lib.run_convert_bytes_const (P := Tryd.prog) w2 29 5 #[.int .u8 2, .int .u8 97] 2 2 Tryd.underlying29 Tryd.underlying5
  go_upto_region 6 with (first | (go_at_call 8; refine F1.it.mono ?_; clear F1; rintro e w3 ⟨fq3, fl3, fc3, ev3, own3, rfl, C3, X3⟩) | fail)
  have e3 : ev3 = .nilIface := Coded.zero C3.out
  subst e3
  obtain ⟨_, _, es⟩ := X3.it.2.1.shape
  have hf3 : fl3 = 0 := by injection es
  subst hf3
  have F2 := Aside.mk (lm_feedC X3.it.1 [98, 0, 1] 3 rfl (3, 4) (areBytes27 _ (by decide)) (by decide) #[.int .u8 98, .int .u8 0, .int .u8 1] rfl _ fx27_2)
  have cv2 := Lib.run_convert_bytes_const (P := Tryd.prog) w3 29 5 #[.int .u8 98, .int .u8 0, .int .u8 1] 3 3 Tryd.underlying29 Tryd.underlying5
  clear es C3 cv1 CV3 cv0
  go_upto_region 7 with (first | (go_at_call 8; refine F2.it.mono ?_; clear F2; rintro e w4 ⟨fq4, fl4, fc4, ev4, own4, rfl, C4, X4⟩) | fail)
  have e4 : ev4 = .nilIface := Coded.zero C4.out
  subst e4
  have cv3 := Lib.run_convert_bytes_const (P := Tryd.prog) w4 29 5 #[.int .u8 97, .int .u8 98] 2 2 Tryd.underlying29 Tryd.underlying5
  obtain ⟨W5, hW5⟩ : ∃ W5, W5 = ((w4.alloc (.cells #[.int .u8 97, .int .u8 98] 5 (2, 3))).alloc (.cells #[] 5)).alloc (.cells #[.slice (some ⟨w4.heap.size, 0, none⟩) 2 2, .slice (some ⟨w4.heap.size + 1, 0, none⟩) 0 0] 29) := ⟨_, rfl⟩
  have K5 : Aside (Keeps Nowhere w4 W5) := ⟨by rw [hW5]; exact (((Keeps.refl _ _).alloc _).alloc _).alloc _⟩
  have SM : Aside (Calls Tryd.prog 9 #[.slice fq4 fl4 fc4, .slice (some ⟨w4.heap.size + 2, 0, none⟩) 2 2] W5 fun e w' => e = .returned (.bool true) ∧ ∃ m, w' = W5.drewN m) := ⟨by
    have a := RdL.quiet X4.it.2.1.rdL K5.it
    have b := lit2 w4 (2, 3)
    rw [← hW5] at b
    have := same27 a b (fun x hx => by simp at hx; rcases hx with rfl | rfl <;> exact areBytes27 _ (by decide)) (fun x hx => by simp at hx; rcases hx with rfl | rfl <;> exact areBytes27 _ (by decide)) (by decide) (by decide)
    simpa using this⟩
  have L5 := Aside.mk (X4.it.1.quiet K5.it)
  have HW5 := Aside.mk hW5
  clear cv2 C4 X3 hW5
  go_wp2_with (first
    | (go_at_call 9; rw [← HW5.it]; refine SM.it.mono ?_; clear SM; rintro e w6 ⟨rfl, m6, rfl⟩; have L6 := Aside.mk (L5.it.quiet ((Keeps.refl _ _).drewN m6)); have HL := Aside.mk (heldM L6.it.r))
    | (go_at_call 10; refine HL.it.mono ?_; clear HL; rintro e w7 ⟨rfl, m7, rfl⟩; have L7 : Aside (Lm A w1 own4 (W5.drewN (m6 + m7)) p 200 [1] false) := ⟨L5.it.quiet ((Keeps.refl _ _).drewN _)⟩; have DN := Aside.mk (doneR L7.it.r L7.it.g.sents))
    | (go_at_call 13; refine DN.it.mono ?_; clear DN; rintro e w8 ⟨ev8, rfl, C8, m8, rfl⟩; have L8 : Aside (Lm A w1 own4 (W5.drewN (m6 + m7 + m8)) p 200 [1] false) := ⟨L5.it.quiet ((Keeps.refl _ _).drewN _)⟩; have CD := Aside.mk (code_of L8.it.g.sents C8.out))
    | (go_at_call 12; refine CD.it.mono ?_; rintro e w9 ⟨rfl, hw9⟩; rw [hw9])
    | fail)
  go_ret
  exact ⟨rfl, ⟨KW.it.bel.trans (L8.it.g.g.bel.mono KW.it.size)⟩⟩
end
end Go.Proofs.YtnocalkloinbbaaDoor
