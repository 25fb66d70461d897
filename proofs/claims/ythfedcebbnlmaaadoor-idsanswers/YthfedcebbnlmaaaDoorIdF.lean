/-
  IdsPair
-/
import Derived.Test.YthfedcebbnlmaaaDoorIdE
import Derived.Test.YthfedcebbnlmaaaDoorOpenI14
namespace Go.Proofs.YthfedcebbnlmaaaDoor
open Go.RowKit

section
variable {A : Nat → Addr}
/-- two ends: the one's next number is above both marks of its parity, which are one -/
structure Pr14 (x y : Im) : Prop where
  xo : x.o = 0 ∨ x.o = 1
  yo : y.o = 1 - x.o
  same : y.mark x.o = x.mark x.o
theorem Bools14.read {w0 : World} {sa : Option Addr} {zs : List Bool}
    (hat : ∀ i z, zs[i]? = some z → ∃ b o cs, sa = some ⟨b, o, none⟩ ∧ Bool14Ok z cs ∧ cs.length = 1 ∧ ∀ j, j < 1 → w0.cell? ⟨b, o + i * 1 + j, none⟩ = cs[j]?) (k : Nat) (n : Bool) (hk : zs[k]? = some n) :
    ∃ (sb so : Nat), sa = some ⟨sb, so, none⟩ ∧ w0.cell? ⟨sb, so + k, none⟩ = some (.bool n) := by
  obtain ⟨sb, so, cs, rfl, hok, hl, hc⟩ := hat k n hk
  have e : cs = [.bool n] := hok
  subst e
  have h0 := hc 0 (by decide)
  rw [Nat.mul_one, Nat.add_zero] at h0
  exact ⟨sb, so, rfl, h0⟩
structure PrF (x y : Im) (n : Int) : Prop where
  n0 : 0 ≤ n
  ma : x.next.mine n = true
  mb : y.mine n = false
  ka : x.next.known n = false
  kb : y.known n = false
  sa : x.next.sentE n = 0
  hb : y.hearE n = 0
  ka2 : (x.next.rise n).known n = true
  kb2 : (y.rise n).known n = true
  hb2 : (y.rise n).hearE n = 19
  sa2 : (x.next.rise n).sentE n = 19
  ha2 : (x.next.rise n).hearE n = 18
  mka : (x.next.rise n).mark (x.next.rise n).o = n
  mkb : (y.rise n).mark (1 - (y.rise n).o) = n
  pr1 : Pr14 x.next y
  pr2 : Pr14 (x.next.rise n) (y.rise n)
theorem Pr14.facts {x y : Im} (hx : x.Ok) (h : Pr14 x y) : PrF x y x.n := by
  have a1 := hx.n1; have a2 := hx.b1; have a3 := hx.n2
  have a4 := hx.mo
  have a5 := h.xo
  have a6 := h.yo
  have n1 : 1 ≤ x.n := by omega
  have np : x.n % 2 = x.o := by omega
  have nz : x.n ≠ 0 := by omega
  have ma : x.next.mine x.n = true := hx.own
  have mb : y.mine x.n = false := Bool.eq_false_iff.2 fun e => by have := (Im.mine_iff.1 e).2; omega
  have ka : x.next.known x.n = false := Bool.eq_false_iff.2 fun e => by
    have := (Im.known_iff.1 e).2
    rw [np] at this
    have e2 : x.next.mark x.o = x.mark x.o := rfl
    omega
  have kb : y.known x.n = false := Bool.eq_false_iff.2 fun e => by
    have := (Im.known_iff.1 e).2
    rw [np, h.same] at this
    omega
  have bn : x.next.b ≤ x.n ∧ x.n < x.next.n := ⟨a1, by show x.n < x.n + 2; omega⟩
  have ka2 : (x.next.rise x.n).known x.n = true := Im.known_iff.2 ⟨nz, by rw [Im.mark_rise]; exact Int.le_refl _⟩
  have kb2 : (y.rise x.n).known x.n = true := Im.known_iff.2 ⟨nz, by rw [Im.mark_rise]; exact Int.le_refl _⟩
  have ma2 : (x.next.rise x.n).mine x.n = true := by
    unfold Im.mine at ma ⊢
    rw [Im.rise_o]; exact ma
  have mb2 : ¬ (y.rise x.n).mine x.n = true := by
    unfold Im.mine at mb ⊢
    rw [Im.rise_o, mb]; decide
  have xo : x.next.o = x.o := rfl
  refine ⟨by omega, ma, mb, ka, kb, ?_, ?_, ka2, kb2, ?_, ?_, ?_, ?_, ?_, ⟨a5, a6, h.same⟩, ?_⟩
  · unfold Im.sentE; rw [if_pos ma, if_pos bn, if_neg (by rw [ka]; decide)]
  · unfold Im.hearE; rw [if_neg nz, if_neg (by rw [mb]; decide), if_neg (by rw [kb]; decide)]
  · unfold Im.hearE; rw [if_neg nz, if_neg mb2, if_pos kb2]
  · unfold Im.sentE; rw [if_pos ma2, Im.rise_b, Im.rise_n, if_pos bn, if_pos ka2]
  · unfold Im.hearE; rw [if_neg nz, if_pos ma2]
  · rw [Im.rise_o, xo, ← np]; exact Im.mark_rise
  · rw [Im.rise_o, a6, show 1 - (1 - x.o) = x.n % 2 by omega]; exact Im.mark_rise
  · refine ⟨by rw [Im.rise_o]; exact a5, by rw [Im.rise_o, Im.rise_o]; exact a6, ?_⟩
    rw [Im.rise_o, xo, ← np, Im.mark_rise, Im.mark_rise]
theorem pty_not (c : Bool) : pty (!c) = 1 - pty c := by cases c <;> rfl
theorem Pr14.start (c : Bool) (a b : Int) : Pr14 (Im.new (pty c) a) (Im.new (pty (!c)) b) := by
  refine ⟨by cases c; exact .inl rfl; exact .inr rfl, pty_not c, ?_⟩
  unfold Im.mark Im.new
  simp
theorem IdW.cell {own : Nat → Nat} {w w0 : World} {b : Nat} {t : TypeId} {cs : List Value} {L : List (Nat × Im)} {X : List (Nat × TypeId × List Value)} (h : Aside (IdW A w0 ((b, t, cs) :: X) L own w)) (j : Nat) : w.cell? ⟨b, j, none⟩ = cs[j]? := (h.it.ex _ (List.mem_cons_self ..)).1.1.cell j

set_option maxRecDepth 20000 in
set_option maxHeartbeats 2000000 in
theorem idsPair_walk {A : Nat → Addr} (c : Bool) (v1 : Value) (z : SkipsV) (v2 : Value) (zs : List Bool) (w : World) (hs : St14 A w) (hz : SkipsArg w v1 z) (hz2 : Bools14Arg w v2 zs) :
    Calls Tryd.prog 6 #[.bool c, v1, v2] w fun e w' => e = .returned (.bool true) ∧ Below w.heap.size w w' := by
  obtain ⟨a, b⟩ := z
  obtain ⟨rfl, _, _⟩ := hz
  obtain ⟨sa, sc, rfl, hlc, hmx, hat⟩ := hz2
  obtain ⟨M, hM⟩ : ∃ M, Aside (M = zs.length) := ⟨_, ⟨rfl⟩⟩
  rw [← hM.it] at hlc ⊢
  have G0 := IdW.start hs
  have HAT := Aside.mk hat
  have hM63 : (M : Int) ≤ 9223372036854775807 := by
    have : sc ≤ 9223372036854775807 := hmx
    omega
  clear hs hat hmx
  simp only
  go_enter Tryd.func6, Tryd.ntmps6
  go_upto_region 1 with fail
  obtain ⟨W0, hW0⟩ : ∃ W0, W0 = w.alloc (.cells #[.int .i64 a, .int .i64 b] 55) := ⟨_, rfl⟩
  obtain ⟨own0, P0⟩ : ∃ own0, Aside (IdW A w [(w.heap.size, 55, [.int .i64 a, .int .i64 b])] [] own0 W0) := ⟨_, by rw [hW0]; exact IdW.box G0 _ _⟩
  rw [← hW0]
  obtain ⟨bx, hb⟩ : ∃ bx, Aside (bx = w.heap.size) := ⟨_, ⟨rfl⟩⟩
  rw [← hb.it] at P0 ⊢
  clear hW0 G0
  have F := Aside.mk (fixed14 (IdW.st P0))
  go_upto_region 3 with (first | (go_at_call 12; refine F.it.mono ?_; rintro e w1 ⟨rfl, b1⟩) | fail)
  have P1 := IdW.quiet P0 (Keeps.ofBelow b1.it)
  clear F P0 b1
  have r0 := IdW.cell P1 0
  simp only [List.getElem?_cons_zero] at r0
  by_cases ha : a < 0 ∨ 2147483647 < a
  · have HA := Aside.mk ha
    clear ha
    go_upto_region 4 with (first | (go_at_call 8; refine (new14_no P1 c a (by have := HA.it; omega)).mono ?_; rintro e w2 ⟨rfl, P2⟩) | fail)
    have r1 := IdW.cell P2 1
    simp only [List.getElem?_cons_zero, List.getElem?_cons_succ] at r1
    by_cases hbb : b < 0 ∨ 2147483647 < b
    · have HB := Aside.mk hbb
      clear hbb
      go_wp2_with (first | (go_at_call 8; refine (new14_no P2 (!c) b (by have := HB.it; omega)).mono ?_; rintro e w3 ⟨rfl, P3⟩) | fail)
      go_ret
      exact ⟨rfl, IdW.bel P3⟩
    · have hb1 : 0 ≤ b := by omega
      have hb2 : b ≤ 2147483647 := by omega
      clear hbb
      go_wp2_with (first | (go_at_call 8; refine (new14 P2 (!c) b hb1 hb2).mono ?_; rintro e w3 ⟨pb, own3, rfl, P3⟩) | fail)
      go_ret
      exact ⟨rfl, IdW.bel P3⟩
  · have ha1 : 0 ≤ a := by omega
    have ha2 : a ≤ 2147483647 := by omega
    clear ha
    go_upto_region 4 with (first | (go_at_call 8; refine (new14 P1 c a ha1 ha2).mono ?_; rintro e w2 ⟨pa, own2, rfl, P2⟩) | fail)
    have r1 := IdW.cell P2 1
    simp only [List.getElem?_cons_zero, List.getElem?_cons_succ] at r1
    by_cases hbb : b < 0 ∨ 2147483647 < b
    · have HB := Aside.mk hbb
      clear hbb
      go_wp2_with (first | (go_at_call 8; refine (new14_no P2 (!c) b (by have := HB.it; omega)).mono ?_; rintro e w3 ⟨rfl, P3⟩) | fail)
      go_ret
      exact ⟨rfl, IdW.bel P3⟩
    · have hb1 : 0 ≤ b := by omega
      have hb2 : b ≤ 2147483647 := by omega
      clear hbb
      go_upto_region 8 with (first | (go_at_call 8; refine (new14 P2 (!c) b hb1 hb2).mono ?_; rintro e w3 ⟨pb, own3, rfl, P3⟩) | fail)
      have PR := Aside.mk (Pr14.start c a b)
      obtain ⟨x0, hx0⟩ : ∃ x0, x0 = Im.new (pty c) a := ⟨_, rfl⟩
      obtain ⟨y0, hy0⟩ : ∃ y0, y0 = Im.new (pty (!c)) b := ⟨_, rfl⟩
      rw [← hx0] at PR
      rw [← hy0] at PR
      rw [← hx0, ← hy0] at P3
      have P4 : Aside (IdW A w [] [(pa, x0), (pb, y0)] own3 w3) := IdW.less P3
      clear P1 P2 P3 hx0 hy0 r0 r1 ha1 ha2 hb1 hb2
      go_loopw [61] (fun iv wr => ∃ (k : Nat) (own : Nat → Nat) (x y : Im), iv = .int .i64 k ∧ k ≤ M ∧ Aside (Pr14 x y) ∧ Aside (IdW A w [] [(pa, x), (pb, y)] own wr)) (fun iv _ => M - (intOf iv).toNat)
      case atStart => exact ⟨0, own3, x0, y0, rfl, Nat.zero_le _, PR, P4⟩
      case round =>
        clear PR P4
        obtain ⟨k, own, x, y, rfl, hk, PR, HP⟩ := hrel
        rcases Nat.eq_or_lt_of_le hk with rfl | hlt
        · go_wp2_with fail
          all_goals first
            | (exfalso; omega)
            | skip
          go_ret
          exact ⟨rfl, IdW.bel HP⟩
        · obtain ⟨yes, hyes⟩ : ∃ yes, zs[k]? = some yes := ⟨_, List.getElem?_eq_getElem (by rw [← hM.it]; exact hlt)⟩
          obtain ⟨sb, so, rfl, r0⟩ := Bools14.read HAT.it k yes hyes
          replace r0 := HP.it.g.g.cell rfl r0
          have i2 : (k : Int) < M := by omega
          have i3 : (0 : Int) ≤ k := by omega
          have i4 : (k : Int) ≤ 9223372036854775806 := by omega
          have OK := Aside.mk (HP.it.ids 0 pa x rfl).ok
          have PF := Aside.mk (PR.it.facts OK.it)
          obtain ⟨n1, hn1⟩ : ∃ n1, x.n = n1 := ⟨_, rfl⟩
          rw [hn1] at PF
          have HN := Aside.mk hn1
          clear hyes hk
          by_cases hq : n1 ≤ 4294967295
          · have n0 := PF.it.n0
            clear hn1
            cases yes
            · go_wp2_with (first
                | (go_at_call 11; refine (next14 HP 0 n1 rfl HN.it hq).mono ?_; rintro e w4 ⟨rfl, P4⟩)
                | (go_at_call 21; refine (mine14 P5 1 n1 false rfl n0 PF.it.mb).mono ?_; rintro e w6 ⟨rfl, P6⟩)
                | (go_at_call 21; refine (mine14 P4 0 n1 true rfl n0 PF.it.ma).mono ?_; rintro e w5 ⟨rfl, P5⟩)
                | (go_at_call 19; refine (known14 P7 1 n1 false rfl n0 PF.it.kb).mono ?_; rintro e w8 ⟨rfl, P8⟩)
                | (go_at_call 19; refine (known14 P6 0 n1 false rfl n0 PF.it.ka).mono ?_; rintro e w7 ⟨rfl, P7⟩)
                | fail)
              go_roundw
              case rel => exact ⟨k + 1, own, x.next, y, by go_num, by omega, ⟨PF.it.pr1⟩, P8⟩
              case measure => simp [intOf]; omega
            · go_upto_region 16 with (first
                | (go_at_call 11; refine (next14 HP 0 n1 rfl HN.it hq).mono ?_; rintro e w4 ⟨rfl, P4⟩)
                | (go_at_call 21; refine (mine14 P5 1 n1 false rfl n0 PF.it.mb).mono ?_; rintro e w6 ⟨rfl, P6⟩)
                | (go_at_call 21; refine (mine14 P4 0 n1 true rfl n0 PF.it.ma).mono ?_; rintro e w5 ⟨rfl, P5⟩)
                | (go_at_call 19; refine (known14 P7 1 n1 false rfl n0 PF.it.kb).mono ?_; rintro e w8 ⟨rfl, P8⟩)
                | (go_at_call 19; refine (known14 P6 0 n1 false rfl n0 PF.it.ka).mono ?_; rintro e w7 ⟨rfl, P7⟩)
                | fail)
              clear P4 P5 P6 P7 HP
              go_upto_region 18 with (first
                | (go_at_call 16; refine (sent14_ok P8 0 n1 rfl n0 hq PF.it.sa).mono ?_; rintro e w9 ⟨rfl, P9⟩)
                | (go_at_call 18; refine (hear14_ok Pa 1 n1 rfl n0 hq PF.it.hb).mono ?_; rintro e wb ⟨rfl, Pb⟩)
                | (go_at_call 19; refine (known14 Pq 1 n1 true rfl n0 PF.it.kb2).mono ?_; rintro e wd ⟨rfl, Pd⟩)
                | (go_at_call 19; refine (known14 Pb 0 n1 true rfl n0 PF.it.ka2).mono ?_; rintro e wq ⟨rfl, Pq⟩)
                | (go_at_call 19; refine (known14 P9 1 n1 false rfl n0 PF.it.kb).mono ?_; rintro e wa ⟨rfl, Pa⟩)
                | fail)
              clear P8 P9 Pa Pb Pq
              go_upto_region 20 with (first
                | (go_at_call 18; refine (hear14_no Pg 0 n1 18 rfl n0 hq PF.it.ha2 (by decide)).mono ?_; rintro e wh ⟨⟨ah, rfl, hvh⟩, Ph⟩)
                | (go_at_call 18; refine (hear14_no Pd 1 n1 19 rfl n0 hq PF.it.hb2 (by decide)).mono ?_; rintro e we ⟨⟨ae, rfl, hve⟩, Pe⟩)
                | (go_at_call 16; refine (sent14_no Pe 0 n1 19 rfl n0 hq PF.it.sa2 (by decide)).mono ?_; rintro e wg ⟨⟨ag, rfl, hvg⟩, Pg⟩)
                | (go_at_call 9; refine (code14 Ph hvh).mono ?_; rintro e w' ⟨rfl, rfl⟩)
                | (go_at_call 9; refine (code14 Pg hvg).mono ?_; rintro e w' ⟨rfl, rfl⟩)
                | (go_at_call 9; refine (code14 Pe hve).mono ?_; rintro e w' ⟨rfl, rfl⟩)
                | fail)
              clear Pd Pe Pg
              go_wp2_with (first
                | (go_at_call 23; refine (marks14 Pi 1 _ n1 rfl rfl PF.it.mkb).mono ?_; rintro e wj ⟨rfl, Pj⟩)
                | (go_at_call 23; refine (marks14 Ph 0 n1 _ rfl PF.it.mka rfl).mono ?_; rintro e wi ⟨rfl, Pi⟩)
                | fail)
              go_roundw
              case rel => exact ⟨k + 1, own, x.next.rise n1, y.rise n1, by go_num, by omega, ⟨PF.it.pr2⟩, Pj⟩
              case measure => simp [intOf]; omega
          · have HQ := Aside.mk (show ¬ x.n ≤ 4294967295 by rw [hn1]; exact hq)
            have HL := Aside.mk (Im.left_zero OK.it HQ.it)
            clear hn1 hq
            go_wp2_with (first
              | (go_at_call 10; refine (left14 P4 0 0 rfl HL.it).mono ?_; rintro e w5 ⟨rfl, P5⟩)
              | (go_at_call 11; refine (next14_no HP 0 rfl (by have := HQ.it; omega)).mono ?_; rintro e w4 ⟨rfl, P4⟩)
              | fail)
            go_ret
            exact ⟨rfl, IdW.bel P5⟩
end
end Go.Proofs.YthfedcebbnlmaaaDoor
