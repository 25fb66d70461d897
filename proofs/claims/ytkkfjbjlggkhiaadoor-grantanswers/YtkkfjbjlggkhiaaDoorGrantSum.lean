/-
  GrantSum, walked.
-/
import Derived.Test.YtkkfjbjlggkhiaaDoorGrantC
import Derived.Test.YtkkfjbjlggkhiaaDoorOpenG
import Derived.Deep.DeepCutAuto
namespace Go.Proofs.YtkkfjbjlggkhiaaDoor
open Go.RowKit

/-- what a script's k-th thing is, in a later world -/
theorem Ops8.read {w0 : World} {sa : Option Addr} {M : Nat} {zs : List OpV8} (hM : M = zs.length)
    (hat : ∀ i z, zs[i]? = some z → ∃ b o cs, sa = some ⟨b, o, none⟩ ∧ Op8Ok z cs ∧ cs.length = 2 ∧ ∀ j, j < 2 → w0.cell? ⟨b, o + i * 2 + j, none⟩ = cs[j]?) (k : Nat) (hk : k < M) :
    ∃ (c : Bool) (n : Int) (sb so : Nat), (-9223372036854775808 ≤ n ∧ n ≤ 9223372036854775807) ∧ sa = some ⟨sb, so, none⟩ ∧ ∀ own w B, Ground B w0 own w → B = w0.heap.size → w.cell? ⟨sb, so + k * 2, none⟩ = some (.bool c) ∧ w.cell? ⟨sb, so + k * 2 + 1, none⟩ = some (.int .i64 n) := by
  subst hM
  obtain ⟨sb, so, cs, rfl, hok, hl, hc⟩ := hat k zs[k] (List.getElem?_eq_getElem hk)
  have e := hok.1
  subst e
  have h0 := hc 0 (by decide)
  have h1 := hc 1 (by decide)
  exact ⟨_, _, sb, so, hok.2, rfl, fun own w B g e => ⟨g.cell e h0, g.cell e h1⟩⟩

set_option maxRecDepth 20000 in
set_option maxHeartbeats 4000000 in
theorem grantSum_walk {A : Nat → Addr} (n : Int) (script : Value) (zs : List OpV8) (w : World) (hs : Sents 89 fourVars A w) (hz : Ops8Arg w script zs) :
    Calls Tryd.prog 5 #[.int .i64 n, script] w fun e w' => e = .returned (.bool true) ∧ Below w.heap.size w w' := by
  obtain ⟨sa, sc, rfl, hlc, hmx, hat⟩ := hz
  obtain ⟨M, hM⟩ : ∃ M, Aside (M = zs.length) := ⟨_, ⟨rfl⟩⟩
  rw [← hM.it] at hlc ⊢
  have HAT := Aside.mk (fun k hk => Ops8.read hM.it hat k hk)
  have hM63 : (M : Int) ≤ 9223372036854775807 := by
    have : sc ≤ 9223372036854775807 := hmx
    omega
  obtain ⟨A', S8⟩ : ∃ A', Aside (Sent8 A' w) := ⟨_, ⟨hs.four⟩⟩
  have F := Aside.mk (fixed8 S8.it)
  have G0 := Aside.mk (OnF.start S8.it)
  clear hs hat hmx S8
  by_cases hn : n < 1 ∨ 2147483647 < n
  · go_enter Tryd.func5, Tryd.ntmps5
    go_upto_region 5 with (first
      | (go_at_call 9; refine N.it.mono ?_; rintro e w2 ⟨rfl, k2⟩)
      | (go_at_call 13; refine F.it.mono ?_; rintro e w1 ⟨rfl, b1⟩; have G1 := Aside.mk (G0.it.quiet (Keeps.ofBelow (S := Nowhere) b1.it)); have N := Aside.mk (newG_no n w1 G1.it.sents hn)) | fail)
    have G2 := Aside.mk (G1.it.quiet k2.it)
    clear F G0 G1 N k2 b1
    rcases hn with hn | hn
    · go_wp2_with fail
      go_ret
      exact ⟨rfl, G2.it.g.bel⟩
    · have hn1 : ¬ n < 1 := by omega
      go_wp2_with fail
      go_ret
      exact ⟨rfl, G2.it.g.bel⟩
  · have hn1 : 1 ≤ n := by omega
    have hn2 : n ≤ 2147483647 := by omega
    have T := Aside.mk (fun w => threshold_in n w hn1 hn2)
    obtain ⟨t, ht⟩ : ∃ t, t = (n + 1) / 2 := ⟨_, rfl⟩
    rw [← ht] at T
    clear hn
    go_enter Tryd.func5, Tryd.ntmps5
    go_upto_region 7 with (first
      | (go_at_call 9; refine N.it.mono ?_; rintro e w2 ⟨p, own2, rfl, P2⟩)
      | (go_at_call 13; refine F.it.mono ?_; rintro e w1 ⟨rfl, b1⟩; have G1 := Aside.mk (G0.it.quiet (Keeps.ofBelow (S := Nowhere) b1.it)); have N := Aside.mk (new8 G1 n hn1 hn2)) | fail)
    clear F G0 G1 N b1
    go_upto_region 8 with fail
    go_loopw [7, 8, 9, 39] (fun cv wv tv i wr => ∃ (k : Nat) (own : Nat → Nat) (l u o C R T : Int), cv = .int .i64 C ∧ wv = .int .i64 R ∧ tv = .int .i64 T ∧ i = .int .i64 k ∧ k ≤ M ∧ IntKind.i64.wrap (C - R) = u ∧ IntKind.i64.wrap (R - T) = o ∧ Aside (Pl8 A' w [] p n l u o own wr)) (fun _ _ _ i _ => M - (intOf i).toNat)
    case atStart => exact ⟨0, own2, n, 0, 0, 0, 0, 0, rfl, rfl, rfl, rfl, Nat.zero_le _, rfl, rfl, P2⟩
    case round =>
      obtain ⟨k, own, l, u, o, C, R, T0, rfl, rfl, rfl, rfl, hk, hCR, hRT, HP⟩ := hrel
      clear P2
      rcases Nat.eq_or_lt_of_le hk with rfl | hlt
      · go_wp2_with fail
        all_goals first
          | (exfalso; omega)
          | skip
        go_ret
        exact ⟨rfl, HP.it.g.g.bel⟩
      · obtain ⟨c, a, sb, so, ha, rfl, hr⟩ := HAT.it k hlt
        obtain ⟨r0, r1⟩ := hr _ _ _ HP.it.g.g rfl
        have i2 : (k : Int) < M := by omega
        have i3 : (0 : Int) ≤ k := by omega
        have i4 : (k : Int) ≤ 9223372036854775806 := by omega
        clear hr hk
        go_upto_region 10 with fail
        obtain ⟨W1, hW1⟩ : ∃ W1, W1 = wr.alloc (.cells #[.bool c, .int .i64 a] 37) := ⟨_, rfl⟩
        obtain ⟨own1, R1⟩ : ∃ own1, Aside (Pl8 A' w [(wr.heap.size, 37, [.bool c, .int .i64 a])] p n l u o own1 W1) := ⟨_, by rw [hW1]; exact Pl8.box HP _ _⟩
        rw [← hW1]
        obtain ⟨b, hb⟩ : ∃ b, Aside (b = wr.heap.size) := ⟨_, ⟨rfl⟩⟩
        rw [← hb.it] at R1 ⊢
        clear hW1 r0 r1 HP
        have l1 := R1.it.recv.cnt.l1
        have u1 := R1.it.recv.cnt.u1
        have o1 := R1.it.recv.cnt.o1
        have su := R1.it.recv.cnt.sum
        have ow := R1.it.recv.ow
        rw [← ht] at ow
        have tn : t ≤ n := by omega
        go_upto_region 12 with (first | (go_at_call 11; with_reducible refine (left8 (by with_reducible assumption)).mono ?_; rintro e w5 ⟨rfl, P5⟩) | (go_at_call 21; with_reducible refine (unread8 (by with_reducible assumption)).mono ?_; rintro e w5 ⟨rfl, P5⟩) | (go_at_call 22; with_reducible refine (owed8 (by with_reducible assumption)).mono ?_; rintro e w5 ⟨rfl, P5⟩) | (go_at_call 12; refine (T.it _).mono ?_; rintro e w' ⟨rfl, rfl⟩) | fail)
        obtain ⟨b0, b1⟩ := Pl8.op P5
        go_upto_if 50 with fail
        go_cut [7, 8, 9, 15] from 40 to 185 (fun cv wv tv rf wx => ∃ (l' u' o' C' R' T' : Int) (r : Bool), cv = .int .i64 C' ∧ wv = .int .i64 R' ∧ tv = .int .i64 T' ∧ rf = .bool r ∧ IntKind.i64.wrap (C' - R') = u' ∧ IntKind.i64.wrap (R' - T') = o' ∧ (r = true → l' = l ∧ u' = u ∧ o' = o) ∧ Aside (Pl8 A' w [(b, 37, [.bool c, .int .i64 a])] p n l' u' o' own1 wx))
        case first =>
          cases c
          · by_cases hr : 0 ≤ a ∧ a ≤ u
            · obtain ⟨hr1, hr2⟩ := hr
              go_upto_region 20 with (first | (go_at_call 19; with_reducible refine (read8_ok (by with_reducible assumption) a hr1 hr2).mono ?_; rintro e w6 ⟨g, ⟨g1, g2, g3⟩, rfl, P6⟩) | fail)
              obtain ⟨b2, b3⟩ := Pl8.op P6
              have f1 : IntKind.i64.wrap (C - wrap64 (R + a)) = u - a := by unfold wrap64; rw [IntKind.wrap_i64] at hCR ⊢; omega
              have f2 : IntKind.i64.wrap (wrap64 (R + a) - wrap64 (T0 + g)) = o + a - g := by unfold wrap64; rw [IntKind.wrap_i64] at hRT ⊢; omega
              have e3 : ¬ (a < 0) := by omega
              have e4 : ¬ (u < a) := by omega
              go_wp2_with fail
              go_meet
              case rel => exact ⟨_, _, _, _, _, _, false, rfl, rfl, rfl, rfl, f1, f2, by simp, P6⟩
            · have hr' : a < 0 ∨ u < a := by omega
              go_upto_region 20 with (first | (go_at_call 19; with_reducible refine (read8_no (by with_reducible assumption) a hr').mono ?_; rintro e w6 ⟨ad, rfl, P6⟩) | fail)
              obtain ⟨b2, b3⟩ := Pl8.op P6
              by_cases hq : a < 0
              · go_wp2_with fail
                go_meet
                case rel => exact ⟨_, _, _, _, _, _, true, rfl, rfl, rfl, rfl, hCR, hRT, fun _ => ⟨rfl, rfl, rfl⟩, P6⟩
              · have hq2 : u < a := by omega
                go_wp2_with fail
                go_meet
                case rel => exact ⟨_, _, _, _, _, _, true, rfl, rfl, rfl, rfl, hCR, hRT, fun _ => ⟨rfl, rfl, rfl⟩, P6⟩
          · by_cases hr : 0 ≤ a ∧ a ≤ l
            · obtain ⟨hr1, hr2⟩ := hr
              go_upto_region 14 with (first | (go_at_call 17; with_reducible refine (arrive8_ok (by with_reducible assumption) a hr1 hr2).mono ?_; rintro e w6 ⟨rfl, P6⟩) | fail)
              obtain ⟨b2, b3⟩ := Pl8.op P6
              have f1 : IntKind.i64.wrap (wrap64 (C + a) - R) = u + a := by unfold wrap64; rw [IntKind.wrap_i64] at hCR ⊢; omega
              have e3 : ¬ (a < 0) := by omega
              have e4 : ¬ (l < a) := by omega
              go_wp2_with fail
              go_meet
              case rel => exact ⟨_, _, _, _, _, _, false, rfl, rfl, rfl, rfl, f1, hRT, by simp, P6⟩
            · have hr' : a < 0 ∨ l < a := by omega
              go_upto_region 14 with (first | (go_at_call 17; with_reducible refine (arrive8_no (by with_reducible assumption) a hr').mono ?_; rintro e w6 ⟨ad, rfl, hv, P6⟩; clear hv) | fail)
              obtain ⟨b2, b3⟩ := Pl8.op P6
              by_cases hq : a < 0
              · go_wp2_with fail
                go_meet
                case rel => exact ⟨_, _, _, _, _, _, true, rfl, rfl, rfl, rfl, hCR, hRT, fun _ => ⟨rfl, rfl, rfl⟩, P6⟩
              · have hq2 : l < a := by omega
                go_wp2_with fail
                go_meet
                case rel => exact ⟨_, _, _, _, _, _, true, rfl, rfl, rfl, rfl, hCR, hRT, fun _ => ⟨rfl, rfl, rfl⟩, P6⟩
        case rest =>
          obtain ⟨l', u', o', C', R', T', r, rfl, rfl, rfl, rfl, f1, f2, hsame, P7⟩ := hcut
          have l1' := P7.it.recv.cnt.l1
          have u1' := P7.it.recv.cnt.u1
          have o1' := P7.it.recv.cnt.o1
          have su' := P7.it.recv.cnt.sum
          have ow' := P7.it.recv.ow
          rw [← ht] at ow'
          have gt : ¬ t ≤ o' := by omega
          have nz : l' = 0 → ¬ u' = 0 := by omega
          clear l1 u1 o1 su ow R1 P5 ht tn b0 b1 hCR hRT
          cases r
          · clear hsame
            by_cases hz : l' = 0
            · have hz2 := nz hz
              clear nz
              go_wp2_with (first | (go_at_call 11; with_reducible refine (left8 (by with_reducible assumption)).mono ?_; rintro e w5 ⟨rfl, P5⟩) | (go_at_call 21; with_reducible refine (unread8 (by with_reducible assumption)).mono ?_; rintro e w5 ⟨rfl, P5⟩) | (go_at_call 22; with_reducible refine (owed8 (by with_reducible assumption)).mono ?_; rintro e w5 ⟨rfl, P5⟩) | (go_at_call 12; refine (T.it _).mono ?_; rintro e w' ⟨rfl, rfl⟩) | fail)
              all_goals first
                | (exfalso; omega)
                | skip
              go_roundw
              case rel => exact ⟨k + 1, own1, _, _, _, _, _, _, rfl, rfl, rfl, by go_num, by omega, f1, f2, Pl8.less (by with_reducible assumption)⟩
              case measure => simp [intOf]; omega
            · clear nz
              go_wp2_with (first | (go_at_call 11; with_reducible refine (left8 (by with_reducible assumption)).mono ?_; rintro e w5 ⟨rfl, P5⟩) | (go_at_call 21; with_reducible refine (unread8 (by with_reducible assumption)).mono ?_; rintro e w5 ⟨rfl, P5⟩) | (go_at_call 22; with_reducible refine (owed8 (by with_reducible assumption)).mono ?_; rintro e w5 ⟨rfl, P5⟩) | (go_at_call 12; refine (T.it _).mono ?_; rintro e w' ⟨rfl, rfl⟩) | fail)
              all_goals first
                | (exfalso; omega)
                | skip
              go_roundw
              case rel => exact ⟨k + 1, own1, _, _, _, _, _, _, rfl, rfl, rfl, by go_num, by omega, f1, f2, Pl8.less (by with_reducible assumption)⟩
              case measure => simp [intOf]; omega
          · obtain ⟨e1, e2, e3⟩ := hsame rfl
            rw [e1, e2, e3] at P7
            rw [e1] at l1' su' nz
            rw [e2] at u1' su' nz f1
            rw [e3] at o1' su' ow' gt f2
            clear e1 e2 e3 hsame
            by_cases hz : l = 0
            · have hz2 := nz hz
              clear nz
              go_wp2_with (first | (go_at_call 11; with_reducible refine (left8 (by with_reducible assumption)).mono ?_; rintro e w5 ⟨rfl, P5⟩) | (go_at_call 21; with_reducible refine (unread8 (by with_reducible assumption)).mono ?_; rintro e w5 ⟨rfl, P5⟩) | (go_at_call 22; with_reducible refine (owed8 (by with_reducible assumption)).mono ?_; rintro e w5 ⟨rfl, P5⟩) | (go_at_call 12; refine (T.it _).mono ?_; rintro e w' ⟨rfl, rfl⟩) | fail)
              all_goals first
                | (exfalso; omega)
                | skip
              go_roundw
              case rel => exact ⟨k + 1, own1, _, _, _, _, _, _, rfl, rfl, rfl, by go_num, by omega, f1, f2, Pl8.less (by with_reducible assumption)⟩
              case measure => simp [intOf]; omega
            · clear nz
              go_wp2_with (first | (go_at_call 11; with_reducible refine (left8 (by with_reducible assumption)).mono ?_; rintro e w5 ⟨rfl, P5⟩) | (go_at_call 21; with_reducible refine (unread8 (by with_reducible assumption)).mono ?_; rintro e w5 ⟨rfl, P5⟩) | (go_at_call 22; with_reducible refine (owed8 (by with_reducible assumption)).mono ?_; rintro e w5 ⟨rfl, P5⟩) | (go_at_call 12; refine (T.it _).mono ?_; rintro e w' ⟨rfl, rfl⟩) | fail)
              all_goals first
                | (exfalso; omega)
                | skip
              go_roundw
              case rel => exact ⟨k + 1, own1, _, _, _, _, _, _, rfl, rfl, rfl, by go_num, by omega, f1, f2, Pl8.less (by with_reducible assumption)⟩
              case measure => simp [intOf]; omega
end Go.Proofs.YtkkfjbjlggkhiaaDoor
