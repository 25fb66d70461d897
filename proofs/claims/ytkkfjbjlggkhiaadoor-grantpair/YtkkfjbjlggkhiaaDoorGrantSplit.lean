/-
  GrantSplit, walked: 'all', then the law.
-/
import Derived.Test.YtkkfjbjlggkhiaaDoorGrantC
import Derived.Test.YtkkfjbjlggkhiaaDoorOpenG
namespace Go.Proofs.YtkkfjbjlggkhiaaDoor
open Go.RowKit

/-- what a list's k-th number is, in a later world -/
theorem Ints8.read {w0 : World} {sa : Option Addr} {M : Nat} {zs : List Int} (hM : M = zs.length)
    (hat : ∀ i z, zs[i]? = some z → ∃ b o cs, sa = some ⟨b, o, none⟩ ∧ Int8Ok z cs ∧ cs.length = 1 ∧ ∀ j, j < 1 → w0.cell? ⟨b, o + i * 1 + j, none⟩ = cs[j]?) (k : Nat) (hk : k < M) :
    ∃ (n : Int) (sb so : Nat), (-9223372036854775808 ≤ n ∧ n ≤ 9223372036854775807) ∧ sa = some ⟨sb, so, none⟩ ∧ ∀ own w, Ground w0.heap.size w0 own w → w.cell? ⟨sb, so + k, none⟩ = some (.int .i64 n) := by
  subst hM
  obtain ⟨sb, so, cs, rfl, hok, hl, hc⟩ := hat k zs[k] (List.getElem?_eq_getElem hk)
  have e := hok.1
  subst e
  have h0 := hc 0 (by decide)
  rw [Nat.mul_one, Nat.add_zero] at h0
  exact ⟨_, sb, so, hok.2, rfl, fun own w g => g.cell rfl h0⟩

section
variable {own own' : Nat → Nat} {i : Nat} {w w' w0 : World} {p q : Nat} {W l u o W' l' u' o' : Int} {I : Nat → Prop} {A : Nat → Addr}
/-- a Recv of i's in a step of i's, above the ground -/
structure Al8 (A : Nat → Addr) (w0 : World) (own : Nat → Nat) (i : Nat) (w1 : World) (p : Nat) (W l u o : Int) (w : World) : Prop where
  recv : RecvO own i w p W l u o
  g : OnF A w0 own w
  sn : Sn (fun k => k = i) own w1 own w
  i0 : i ≠ 0
theorem al_read {w1 : World} (h : Aside (Al8 A w0 own i w1 p W l u o w)) (n : Int) (h0 : 0 ≤ n) (h1 : n ≤ u) :
    Calls Tryd.prog 19 #[ptr p, .int .i64 n] w fun e w' => ∃ g, (0 ≤ g ∧ g ≤ o + n ∧ g ≤ 2147483647) ∧ e = .returned (.tuple #[.int .u32 g, .nilIface]) ∧ Aside (Al8 A w0 own i w1 p W (l + g) (u - n) (o + n - g) w') := by
  have a1 := h.it.recv.cnt.o1
  have a2 := h.it.recv.cnt.sum
  have a3 := h.it.recv.cnt.w2
  have a4 := h.it.recv.cnt.l1
  have lift : ∀ {W l u o : Int} {w' : World}, RecvO own i w' p W l u o ∧ Sn (fun k => k = i) own w own w' → Aside (Al8 A w0 own i w1 p W l u o w') := fun x => ⟨⟨x.1, h.it.g.sn x.2 (fun e => h.it.i0 e.symm), h.it.sn.trans x.2, h.it.i0⟩⟩
  by_cases h2 : o + n < (W + 1) / 2
  · refine (read_less (A := A) h.it.recv n h0 h1 h2).mono ?_
    rintro e w' ⟨v, rfl, hv, X⟩
    have e := hv.out.zero
    subst e
    refine ⟨0, by omega, rfl, ?_⟩
    rw [Int.add_zero, Int.sub_zero]
    exact lift X.it
  · refine (read_grant (A := A) h.it.recv n h0 h1 h2).mono ?_
    rintro e w' ⟨v, rfl, hv, X⟩
    have e := hv.out.zero
    subst e
    refine ⟨o + n, by omega, rfl, ?_⟩
    rw [Int.sub_self]
    exact lift X.it
set_option maxRecDepth 20000 in
set_option maxHeartbeats 4000000 in
theorem all8 (hi : i ≠ 0) (h : RecvO own i w p W l u o) (hg : OnF A w0 own w) (v : Value) (zs : List Int) (hz : Ints8Arg w0 v zs) :
    Calls Tryd.prog 27 #[ptr p, .int .i64 u, v] w fun e w' => ∃ g, (0 ≤ g ∧ g ≤ u + o) ∧ e = .returned (.tuple #[.int .i64 g, .bool true]) ∧ Aside (RecvO own i w' p W (l + g) 0 (u + o - g) ∧ Sn (fun k => k = i) own w own w') := by
  obtain ⟨sa, sc, rfl, hlc, hmx, hat⟩ := hz
  obtain ⟨M, hM⟩ : ∃ M, Aside (M = zs.length) := ⟨_, ⟨rfl⟩⟩
  rw [← hM.it] at hlc ⊢
  have HAT := Aside.mk (fun k hk => Ints8.read hM.it hat k hk)
  have hM63 : (M : Int) ≤ 9223372036854775807 := by
    have : sc ≤ 9223372036854775807 := hmx
    omega
  have l0 := h.cnt.l1
  have o0 := h.cnt.o1
  have s0 := h.cnt.sum
  have w2 := h.cnt.w2
  have P0 : Aside (Al8 A w0 own i w p W l u o w) := ⟨⟨h, hg, Sn.refl _ _ _, hi⟩⟩
  clear h hg hat hmx hi
  go_enter Tryd.func27, Tryd.ntmps27
  go_upto_region 3 with fail
  go_loopw [1, 8, 17] (fun nv sv x wr => ∃ (k : Nat) (l1 u1 o1 : Int), nv = .int .i64 u1 ∧ sv = .int .i64 (l1 - l) ∧ x = .int .i64 k ∧ k ≤ M ∧ 0 ≤ l1 - l ∧ Aside (Al8 A w0 own i w p W l1 u1 o1 wr)) (fun _ _ x _ => M - (intOf x).toNat)
  case atStart => exact ⟨0, l, u, o, rfl, by rw [Int.sub_self], rfl, Nat.zero_le _, by omega, P0⟩
  case round =>
    obtain ⟨k, l1, u1, o1, rfl, rfl, rfl, hk, hS, HP⟩ := hrel
    clear P0
    have m1 := HP.it.recv.cnt.l1
    have m2 := HP.it.recv.cnt.u1
    have m3 := HP.it.recv.cnt.o1
    have m4 := HP.it.recv.cnt.sum
    have i3 : (0 : Int) ≤ k := by omega
    rcases Nat.eq_or_lt_of_le hk with rfl | hlt
    · clear HAT
      go_upto_region 13 with (first | (go_at_call 19; with_reducible refine (al_read HP u1 m2 (Int.le_refl _)).mono ?_; rintro e w6 ⟨g, ⟨g1, g2, g3⟩, rfl, P6⟩) | fail)
      all_goals first
        | (exfalso; omega)
        | skip
      go_quiet (fail)
      go_wp2
      go_ret2
      have e1 : l1 - l + g = (l1 + g) - l := by omega
      have k6 := (Keeps.refl Nowhere w6).drewN
      refine ⟨l1 - l + g, by omega, rfl, ⟨?_, P6.it.sn.trans (Sn.same (k6 _))⟩⟩
      have e2 : l + (l1 - l + g) = l1 + g := by omega
      have e3 : u + o - (l1 - l + g) = o1 + u1 - g := by omega
      rw [e2, e3, ← Int.sub_self u1]
      exact P6.it.recv.quiet (k6 _)
    · obtain ⟨a, sb, so, ha, rfl, hr⟩ := HAT.it k hlt
      have r0 := hr _ _ HP.it.g.g
      have i2 : (k : Int) < M := by omega
      have i4 : (k : Int) ≤ 9223372036854775806 := by omega
      clear hr hk
      by_cases c1 : a < 0
      · have c2 : ¬ u1 < 0 := by omega
        go_wp2_with (first | (go_at_call 19; with_reducible refine (al_read HP 0 (by decide) m2).mono ?_; rintro e w6 ⟨g, ⟨g1, g2, g3⟩, rfl, P6⟩) | fail)
        all_goals first
          | (exfalso; omega)
          | skip
        go_roundw
        case rel => exact ⟨k + 1, _, _, _, by first | rfl | go_num, by go_num, by go_num, by omega, by omega, P6⟩
        case measure => simp [intOf]; omega
      · by_cases c2 : u1 < a
        · go_wp2_with (first | (go_at_call 19; with_reducible refine (al_read HP u1 m2 (Int.le_refl _)).mono ?_; rintro e w6 ⟨g, ⟨g1, g2, g3⟩, rfl, P6⟩) | fail)
          all_goals first
            | (exfalso; omega)
            | skip
          go_roundw
          case rel => exact ⟨k + 1, _, _, _, by first | rfl | go_num, by go_num, by go_num, by omega, by omega, P6⟩
          case measure => simp [intOf]; omega
        · go_wp2_with (first | (go_at_call 19; with_reducible refine (al_read HP a (by omega) (by omega)).mono ?_; rintro e w6 ⟨g, ⟨g1, g2, g3⟩, rfl, P6⟩) | fail)
          all_goals first
            | (exfalso; omega)
            | skip
          go_roundw
          case rel => exact ⟨k + 1, _, _, _, by first | rfl | go_num, by go_num, by go_num, by omega, by omega, P6⟩
          case measure => simp [intOf]; omega
/-- two Recvs, of 1's and of 2's -/
structure Sp8 (A : Nat → Addr) (w0 : World) (p q : Nat) (W l u o l' u' o' : Int) (own : Nat → Nat) (w : World) : Prop where
  a : RecvO own 1 w p W l u o
  b : RecvO own 2 w q W l' u' o'
  g : OnF A w0 own w
theorem Sp8.quiet (h : Aside (Sp8 A w0 p q W l u o l' u' o' own w)) (k : Aside (Keeps Nowhere w w')) : Aside (Sp8 A w0 p q W l u o l' u' o' own w') := ⟨⟨h.it.a.quiet k.it, h.it.b.quiet k.it, h.it.g.quiet k.it⟩⟩
theorem sp_arriveA (h : Aside (Sp8 A w0 p q W l u o l' u' o' own w)) (n : Int) (h0 : 0 ≤ n) (h1 : n ≤ l) : Calls Tryd.prog 17 #[ptr p, .int .i64 n] w fun e w' => e = .returned .nilIface ∧ Aside (Sp8 A w0 p q W (l - n) (u + n) o l' u' o' own w') := by
  refine (arrive_ok (A := A) h.it.a n h0 h1).mono ?_
  rintro e w' ⟨v, rfl, hv, Y⟩
  have e := hv.out.zero
  subst e
  exact ⟨rfl, ⟨Y.it.1, h.it.b.sn Y.it.2 (by decide), h.it.g.sn Y.it.2 (by decide)⟩⟩
theorem sp_arriveB (h : Aside (Sp8 A w0 p q W l u o l' u' o' own w)) (n : Int) (h0 : 0 ≤ n) (h1 : n ≤ l') : Calls Tryd.prog 17 #[ptr q, .int .i64 n] w fun e w' => e = .returned .nilIface ∧ Aside (Sp8 A w0 p q W l u o (l' - n) (u' + n) o' own w') := by
  refine (arrive_ok (A := A) h.it.b n h0 h1).mono ?_
  rintro e w' ⟨v, rfl, hv, Y⟩
  have e := hv.out.zero
  subst e
  exact ⟨rfl, ⟨h.it.a.sn Y.it.2 (by decide), Y.it.1, h.it.g.sn Y.it.2 (by decide)⟩⟩
theorem sp_arriveNo (h : Aside (Sp8 A w0 p q W l u o l' u' o' own w)) (n : Int) (h0 : n < 0 ∨ l < n) : Calls Tryd.prog 17 #[ptr p, .int .i64 n] w fun e w' => ∃ v k, ¬ k = 0 ∧ e = .returned v ∧ Hid (Coded A v k) ∧ Aside (OnF A w0 own w') := by
  have e3 : arE l n ≠ 0 := by
    unfold arE
    split
    · decide
    · rw [if_pos (by omega)]; decide
  refine (arrive_any h.it.a n h.it.g.sents).mono ?_
  rintro e w' ⟨v, rfl, hv, Y⟩
  exact ⟨v, _, e3, rfl, hv, ⟨h.it.g.sn Y.it.2 (by decide)⟩⟩
theorem sp_allA (h : Aside (Sp8 A w0 p q W l u o l' u' o' own w)) {v : Value} {zs : List Int} (hz : Aside (Ints8Arg w0 v zs)) :
    Calls Tryd.prog 27 #[ptr p, .int .i64 u, v] w fun e w' => ∃ g, (0 ≤ g ∧ g ≤ u + o) ∧ e = .returned (.tuple #[.int .i64 g, .bool true]) ∧ Aside (Sp8 A w0 p q W (l + g) 0 (u + o - g) l' u' o' own w') := by
  refine (all8 (A := A) (w0 := w0) (by decide) h.it.a h.it.g v zs hz.it).mono ?_
  rintro e w' ⟨g, hg, rfl, Y⟩
  exact ⟨g, hg, rfl, ⟨Y.it.1, h.it.b.sn Y.it.2 (by decide), h.it.g.sn Y.it.2 (by decide)⟩⟩
theorem sp_allB (h : Aside (Sp8 A w0 p q W l u o l' u' o' own w)) {v : Value} {zs : List Int} (hz : Aside (Ints8Arg w0 v zs)) :
    Calls Tryd.prog 27 #[ptr q, .int .i64 u', v] w fun e w' => ∃ g, (0 ≤ g ∧ g ≤ u' + o') ∧ e = .returned (.tuple #[.int .i64 g, .bool true]) ∧ Aside (Sp8 A w0 p q W l u o (l' + g) 0 (u' + o' - g) own w') := by
  refine (all8 (A := A) (w0 := w0) (by decide) h.it.b h.it.g v zs hz.it).mono ?_
  rintro e w' ⟨g, hg, rfl, Y⟩
  exact ⟨g, hg, rfl, ⟨h.it.a.sn Y.it.2 (by decide), Y.it.1, h.it.g.sn Y.it.2 (by decide)⟩⟩
theorem sp_unreadA (h : Aside (Sp8 A w0 p q W l u o l' u' o' own w)) : Calls Tryd.prog 21 #[ptr p] w fun e w' => e = .returned (.int .i64 u) ∧ Aside (Sp8 A w0 p q W l u o l' u' o' own w') :=
  (unread_at h.it.a.cnt).mono (by rintro e w' ⟨rfl, k⟩; exact ⟨rfl, Sp8.quiet h k⟩)
theorem sp_unreadB (h : Aside (Sp8 A w0 p q W l u o l' u' o' own w)) : Calls Tryd.prog 21 #[ptr q] w fun e w' => e = .returned (.int .i64 u') ∧ Aside (Sp8 A w0 p q W l u o l' u' o' own w') :=
  (unread_at h.it.b.cnt).mono (by rintro e w' ⟨rfl, k⟩; exact ⟨rfl, Sp8.quiet h k⟩)
theorem sp_owedA (h : Aside (Sp8 A w0 p q W l u o l' u' o' own w)) : Calls Tryd.prog 22 #[ptr p] w fun e w' => e = .returned (.int .i64 o) ∧ Aside (Sp8 A w0 p q W l u o l' u' o' own w') :=
  (owed_at h.it.a.cnt).mono (by rintro e w' ⟨rfl, k⟩; exact ⟨rfl, Sp8.quiet h k⟩)
theorem sp_owedB (h : Aside (Sp8 A w0 p q W l u o l' u' o' own w)) : Calls Tryd.prog 22 #[ptr q] w fun e w' => e = .returned (.int .i64 o') ∧ Aside (Sp8 A w0 p q W l u o l' u' o' own w') :=
  (owed_at h.it.b.cnt).mono (by rintro e w' ⟨rfl, k⟩; exact ⟨rfl, Sp8.quiet h k⟩)
end

set_option maxRecDepth 20000 in
set_option maxHeartbeats 4000000 in
theorem grantSplit_walk {A : Nat → Addr} (wh : Value) (z : WholeV) (va : Value) (zs : List Int) (vb : Value) (ys : List Int) (w : World) (hs : Sents 89 codeVars A w) (hw : WholeArg w wh z) (hz : Ints8Arg w va zs) (hy : Ints8Arg w vb ys) :
    Calls Tryd.prog 7 #[wh, va, vb] w fun e w' => e = .returned (.bool true) ∧ Below w.heap.size w w' := by
  obtain ⟨n, m⟩ := z
  obtain ⟨rfl, _, hm⟩ := hw
  simp only at hm ⊢
  obtain ⟨w1, hw1⟩ : ∃ w1, w1 = w.alloc (.cells #[.int .i64 n, .int .i64 m] 55) := ⟨_, rfl⟩
  have B : Cells w1 w.heap.size 55 [.int .i64 n, .int .i64 m] := by rw [hw1]; exact Cells.new w _ _
  have K : Keeps Nowhere w w1 := by rw [hw1]; exact (Keeps.refl _ _).alloc _
  have HS := Aside.mk hs
  have HZ := Aside.mk hz
  have HY := Aside.mk hy
  have G1 := Aside.mk ((OnF.start hs.s8).quiet K)
  have F := Aside.mk (fixed8 G1.it.sents)
  have B1 := Aside.mk B
  clear hs hz hy K B
  go_enter Tryd.func7, Tryd.ntmps7
  go_upto_region 1 with fail
  rw [← hw1]
  clear hw1
  go_upto_region 3 with (first | (go_at_call 13; refine F.it.mono ?_; rintro e w2 ⟨rfl, b2⟩) | fail)
  have K2 := Aside.mk (Keeps.ofBelow (S := Nowhere) b2.it)
  have B2 := Aside.mk (B1.it.later K2.it (fun x => x))
  have G2 := Aside.mk (G1.it.quiet K2.it)
  have c0 : w2.cell? ⟨w.heap.size, 0, none⟩ = some (.int .i64 n) := by rw [B2.it.cell]; rfl
  have c1 : w2.cell? ⟨w.heap.size, 1, none⟩ = some (.int .i64 m) := by rw [B2.it.cell]; rfl
  clear F G1 B1 B2 K2 b2
  go_quiet (fail)
  have G3 := Aside.mk (fun m => G2.it.quiet ((Keeps.refl Nowhere w2).drewN m))
  clear c0 c1 G2
  by_cases hn : n < 1 ∨ 2147483647 < n
  · have N1 := Aside.mk (fun m => newG_no n _ (G3.it m).sents hn)
    go_upto_region 5 with (first | (go_at_call 9; refine (N1.it _).mono ?_; rintro e w4 ⟨rfl, k4⟩) | fail)
    have G4 := Aside.mk ((G3.it _).quiet k4.it)
    have N2 := Aside.mk (newG_no n w4 G4.it.sents hn)
    go_wp2_with (first | (go_at_call 9; refine N2.it.mono ?_; rintro e w5 ⟨rfl, k5⟩) | fail)
    go_ret
    exact ⟨rfl, (G4.it.quiet k5.it).g.bel⟩
  · have hn1 : 1 ≤ n := by omega
    have hn2 : n ≤ 2147483647 := by omega
    have N1 := Aside.mk (fun m => newG_ok n (w2.drewN m) (fun _ => 0) 1 hn1 hn2)
    go_upto_region 5 with (first | (go_at_call 9; refine (N1.it _).mono ?_; rintro e w4 ⟨p, own4, rfl, X4⟩) | fail)
    have N2 := Aside.mk (newG_ok n w4 own4 2 hn1 hn2)
    go_upto_region 6 with (first | (go_at_call 9; refine N2.it.mono ?_; rintro e w5 ⟨q, own5, rfl, X5⟩) | fail)
    have P5 : Aside (Sp8 A w p q n n 0 0 n 0 0 own5 w5) := ⟨(X4.it.1.sn X5.it.2.2 (fun x => x)).recv, X5.it.1.recv, ((G3.it _).sn X4.it.2.2 (fun x => x)).sn X5.it.2.2 (fun x => x)⟩
    clear G3 N1 N2 X4 X5 hn
    have T := Aside.mk (fun w => threshold_in n w hn1 hn2)
    obtain ⟨t, ht⟩ : ∃ t, t = (n + 1) / 2 := ⟨_, rfl⟩
    rw [← ht] at T
    by_cases hb : 0 ≤ m ∧ m ≤ n
    · obtain ⟨hb1, hb2⟩ := hb
      have hb3 : ¬ m < 0 := by omega
      have hb4 : ¬ n < m := by omega
      go_upto_region 12 with (first | (go_at_call 17; with_reducible refine (sp_arriveA P5 m hb1 hb2).mono ?_; rintro e w6 ⟨rfl, P6⟩) | (go_at_call 17; with_reducible refine (sp_arriveB P6 m hb1 hb2).mono ?_; rintro e w7 ⟨rfl, P7⟩) | fail)
      rw [Int.zero_add] at P7
      clear P5 P6 hb3 hb4
      go_upto_region 13 with (first | (go_at_call 27; with_reducible refine (sp_allA P7 HZ).mono ?_; rintro e w8 ⟨x, ⟨x1, x2⟩, rfl, P8⟩) | fail)
      go_upto_region 14 with (first | (go_at_call 27; with_reducible refine (sp_allB P8 HY).mono ?_; rintro e w9 ⟨y, ⟨y1, y2⟩, rfl, P9⟩) | fail)
      clear P7 P8 HZ HY
      have ox := P9.it.a.ow
      have oy := P9.it.b.ow
      have d1 : x - y < t := by omega
      have d2 : y - x < t := by omega
      obtain ⟨ox', hox⟩ : ∃ ox', ox' = m + 0 - x := ⟨_, rfl⟩
      obtain ⟨oy', hoy⟩ : ∃ oy', oy' = m + 0 - y := ⟨_, rfl⟩
      rw [← hox, ← hoy] at P9
      have s1 : x + ox' = m := by omega
      have s2 : y + oy' = m := by omega
      have b1 : 0 ≤ ox' := P9.it.a.cnt.o1
      have b2 : 0 ≤ oy' := P9.it.b.cnt.o1
      clear hox hoy ht ox oy
      go_wp2_with (first
        | (go_at_call 12; refine (T.it _).mono ?_; rintro e w' ⟨rfl, rfl⟩)
        | (go_at_call 21; with_reducible refine (sp_unreadA (by with_reducible assumption)).mono ?_; rintro e wa ⟨rfl, Pa⟩)
        | (go_at_call 21; with_reducible refine (sp_unreadB (by with_reducible assumption)).mono ?_; rintro e wa ⟨rfl, Pa⟩)
        | (go_at_call 22; with_reducible refine (sp_owedA (by with_reducible assumption)).mono ?_; rintro e wa ⟨rfl, Pa⟩)
        | (go_at_call 22; with_reducible refine (sp_owedB (by with_reducible assumption)).mono ?_; rintro e wa ⟨rfl, Pa⟩)
        | fail)
      all_goals first
        | (exfalso; omega)
        | skip
      go_ret
      exact ⟨rfl, Pa.it.g.g.bel⟩
    · have hb' : m < 0 ∨ n < m := by omega
      have hb1 : ¬ m < 0 → n < m := by omega
      rcases hb' with hb' | hb'
      · go_upto_region 9 with fail
        go_wp2_with (first
          | (go_at_call 17; with_reducible refine (sp_arriveNo P5 m (.inl hb')).mono ?_; rintro e w6 ⟨v, k, hk, rfl, hv, P6⟩; have CD := Aside.mk (code_of (A := A) (HS.it.later P6.it.g.bel) hv.out))
          | (go_at_call 10; refine CD.it.mono ?_; rintro e w' ⟨rfl, rfl⟩)
          | fail)
        go_ret
        exact ⟨by show Ending.returned (Value.bool (k != 0)) = _; rw [show (k != 0) = true from by simpa using hk], P6.it.g.bel⟩
      · by_cases hb2 : m < 0
        · exfalso; omega
        · go_upto_region 9 with fail
          go_wp2_with (first
            | (go_at_call 17; with_reducible refine (sp_arriveNo P5 m (.inr hb')).mono ?_; rintro e w6 ⟨v, k, hk, rfl, hv, P6⟩; have CD := Aside.mk (code_of (A := A) (HS.it.later P6.it.g.bel) hv.out))
            | (go_at_call 10; refine CD.it.mono ?_; rintro e w' ⟨rfl, rfl⟩)
            | fail)
          go_ret
          exact ⟨by show Ending.returned (Value.bool (k != 0)) = _; rw [show (k != 0) = true from by simpa using hk], P6.it.g.bel⟩
end Go.Proofs.YtkkfjbjlggkhiaaDoor
