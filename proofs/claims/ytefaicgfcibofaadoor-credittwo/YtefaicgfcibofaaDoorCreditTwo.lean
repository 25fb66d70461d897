/-
  CreditTwo, walked.
-/
import Derived.Test.YtefaicgfcibofaaDoorCredD
namespace Go.Proofs.YtefaicgfcibofaaDoor
open Go.RowKit

set_option maxRecDepth 20000 in
set_option maxHeartbeats 4000000 in
theorem creditTwo_walk {A : Nat → Addr} (va : Value) (zs : List OpV7) (vb : Value) (ys : List OpV7) (w : World) (hs : Sents 70 codeVars A w) (hz : Ops7Arg w va zs) (hy : Ops7Arg w vb ys) :
    Calls Tryd.prog 5 #[va, vb] w fun e w' => e = .returned (.bool true) ∧ Below w.heap.size w w' := by
  obtain ⟨sa, sc, rfl, hlc, hmx, hat⟩ := hz
  obtain ⟨ta, tc, rfl, htc, hmy, hbt⟩ := hy
  obtain ⟨M, hM⟩ : ∃ M, Aside (M = zs.length) := ⟨_, ⟨rfl⟩⟩
  obtain ⟨N, hN⟩ : ∃ N, Aside (N = ys.length) := ⟨_, ⟨rfl⟩⟩
  rw [← hM.it] at hlc ⊢
  rw [← hN.it] at htc ⊢
  have AW := Aside.mk (awake7 hs)
  have G0 := Aside.mk (OnG.start hs)
  have HAT := Aside.mk (fun k hk => ListAt.read (A := A) hM.it hat k hk)
  have HBT := Aside.mk (fun k hk => ListAt.read (A := A) hN.it hbt k hk)
  have hM63 : (M : Int) ≤ 9223372036854775807 := by
    have : sc ≤ 9223372036854775807 := hmx
    omega
  have hN63 : (N : Int) ≤ 9223372036854775807 := by
    have : tc ≤ 9223372036854775807 := hmy
    omega
  clear hs hat hbt hmx hmy
  go_enter Tryd.func5, Tryd.ntmps5
  go_upto_region 4 with (first
    | (go_at_call 7; refine N1.it.mono ?_; rintro e w2 ⟨p, own2, rfl, X2⟩)
    | (go_at_call 6; refine AW.it.mono ?_; rintro e w1 ⟨rfl, b1⟩; have G1 := Aside.mk (G0.it.quiet (Keeps.ofBelow (S := Nowhere) b1.it)); have N1 := Aside.mk (newC_ok 1000 w1 (fun _ => 0) 1 (by decide) (by decide))) | fail)
  have G2 := Aside.mk (G1.it.sn X2.it.2.2 (fun x => x))
  have N2 := Aside.mk (newC_ok 1000 w2 own2 2 (by decide) (by decide))
  clear N1
  go_upto_region 5 with (first
    | (go_at_call 7; refine N2.it.mono ?_; rintro e w3 ⟨q, own3, rfl, X3⟩) | fail)
  have G3 := Aside.mk (G2.it.sn X3.it.2.2 (fun x => x))
  have N3 := Aside.mk (newC_ok 1000 w3 own3 3 (by decide) (by decide))
  clear N2
  go_upto_region 6 with (first
    | (go_at_call 7; refine N3.it.mono ?_; rintro e w4 ⟨r, own4, rfl, X4⟩) | fail)
  have P4 : Aside (Tw7 A w p q r 1000 1000 0 1000 0 1000 0 own4 w4) := ⟨(X2.it.1.sn X3.it.2.2 (fun x => x)).sn X4.it.2.2 (fun x => x), X3.it.1.sn X4.it.2.2 (fun x => x), X4.it.1, G3.it.sn X4.it.2.2 (fun x => x)⟩
  clear N3 AW G0 G1 G2 G3 X2 X3 X4 b1
  go_upto_region 9 with fail
  go_loopw [11] (fun i wr => ∃ (k : Nat) (own : Nat → Nat) (c s c2 s2 : Int), i = .int .i64 k ∧ (k ≤ M ∨ k ≤ N) ∧ Aside (Tw7 A w p q r 1000 c s c2 s2 c s own wr)) (fun i _ => max M N - (intOf i).toNat)
  case atStart => exact ⟨0, own4, _, _, _, _, rfl, .inl (Nat.zero_le _), P4⟩
  case round =>
    obtain ⟨k, own, c, s, c2, s2, rfl, hk, HP⟩ := hrel
    clear P4
    have i3 : (0 : Int) ≤ k := by omega
    rcases Nat.lt_or_ge k M with hlt | hge
    · obtain ⟨z, sb, so, hok, rfl, hr⟩ := HAT.it k hlt
      have hd := hok.2.2.1
      have HR := Aside.mk hr
      obtain ⟨kind, n, d⟩ := z
      simp only at hd HR
      clear hok hr
      have i2 : (k : Int) < M := by omega
      have i4 : (k : Int) ≤ 9223372036854775806 := by omega
      obtain ⟨r0, r1, r2⟩ := HR.it own wr HP.it.g
      have HPd : Aside (Tw7 A w p q r 1000 c s c2 s2 c s own wr.drew) := Tw7.quiet HP (Keeps.refl _ _).drew
      have HS : Aside (∀ (c s c2 s2 c3 s3 : Int) (own' : Nat → Nat) (w' : World), Aside (Tw7 A w p q r 1000 c s c2 s2 c3 s3 own' w') → w'.cell? ⟨sb, so + k * 3, none⟩ = some (.int .i64 kind) ∧ w'.cell? ⟨sb, so + k * 3 + 1, none⟩ = some (.int .i64 n) ∧ w'.cell? ⟨sb, so + k * 3 + 2, none⟩ = some (.int .u32 d)) := ⟨fun _ _ _ _ _ _ _ _ h => HR.it _ _ h.it.g⟩
      have DP : Aside (∀ (own' : Nat → Nat) (w' : World), Aside (Tw7 A w p q r 1000 c s c2 s2 c s own' w') → Calls Tryd.prog 16 #[ptr p, .agg #[.int .i64 kind, .int .i64 n, .int .u32 d]] w' fun e w'' => ∃ v own'', e = .returned v ∧ Hid (Coded A v (doE 1000 c ⟨kind, n, d⟩)) ∧ Aside (Tw7 A w p q r 1000 (doC 1000 c ⟨kind, n, d⟩) (doS c s ⟨kind, n, d⟩) c2 s2 c s own'' w'')) := ⟨fun _ _ h => Tw7.doP h ⟨kind, n, d⟩ hd⟩
      have DR : Aside (∀ (c1 s1 : Int) (own' : Nat → Nat) (w' : World), Aside (Tw7 A w p q r 1000 c1 s1 c2 s2 c s own' w') → Calls Tryd.prog 16 #[ptr r, .agg #[.int .i64 kind, .int .i64 n, .int .u32 d]] w' fun e w'' => ∃ v own'', e = .returned v ∧ Hid (Coded A v (doE 1000 c ⟨kind, n, d⟩)) ∧ Aside (Tw7 A w p q r 1000 c1 s1 c2 s2 (doC 1000 c ⟨kind, n, d⟩) (doS c s ⟨kind, n, d⟩) own'' w'')) := ⟨fun _ _ _ _ h => Tw7.doR h ⟨kind, n, d⟩ hd⟩
      go_upto_region 12 with fail
      go_region_held_law (fun w' => w'.cell? ⟨sb, so + k * 3, none⟩ = some (.int .i64 kind) ∧ w'.cell? ⟨sb, so + k * 3 + 1, none⟩ = some (.int .i64 n) ∧ w'.cell? ⟨sb, so + k * 3 + 2, none⟩ = some (.int .u32 d)) (exact HS.it _ _ _ _ _ _ _ _ (by with_reducible assumption)) (first
        | (go_at_call 9; with_reducible refine (Tw7.code (by with_reducible assumption) (by with_reducible assumption)).mono ?_; rintro e w' ⟨rfl, rfl⟩)
        | (go_at_call 16; with_reducible refine (DP.it _ _ (by with_reducible assumption)).mono ?_; rintro e w5 ⟨v5, own5, rfl, hv5, R5⟩)
        | (go_at_call 16; with_reducible refine (DR.it _ _ _ _ (by with_reducible assumption)).mono ?_; rintro e w6 ⟨v6, own6, rfl, hv6, R6⟩)
        | fail)
      clear DP DR HS HPd r0 r1 r2 HP R5 hv5 hv6 hk HR
      rcases Nat.lt_or_ge k N with hb | hb
      · skip
        obtain ⟨y, yb, yo, hyok, rfl, hyr⟩ := HBT.it k hb
        have hyd := hyok.2.2.1
        obtain ⟨yk, yn, yd⟩ := y
        obtain ⟨y0, y1, y2⟩ := hyr _ _ R6.it.g
        simp only at hyd y0 y1 y2
        clear hyok hyr
        have j2 : (k : Int) < N := by omega
        have j4 : (k : Int) ≤ 9223372036854775806 := by omega
        have DQ := Aside.mk (Tw7.doQ R6 ⟨yk, yn, yd⟩ hyd)
        go_wp2_with (first | (go_at_call 16; with_reducible refine DQ.it.mono ?_; rintro e w7 ⟨v7, own7, rfl, R7⟩) | fail)
        all_goals first
          | (exfalso; omega)
          | skip
        go_roundw
        case rel => exact ⟨k + 1, own7, _, _, _, _, by go_num, .inr hb, R7⟩
        case measure => simp [intOf]; omega
      · have hb' : ¬ (k : Int) < N := by omega
        go_wp2_with fail
        all_goals first
          | (exfalso; omega)
          | skip
        go_roundw
        case rel => exact ⟨k + 1, own6, _, _, _, _, by go_num, .inl hlt, R6⟩
        case measure => simp [intOf]; omega
    · have hge' : ¬ (k : Int) < M := by omega
      rcases Nat.lt_or_ge k N with hb | hb
      · skip
        obtain ⟨y, yb, yo, hyok, rfl, hyr⟩ := HBT.it k hb
        have hyd := hyok.2.2.1
        obtain ⟨yk, yn, yd⟩ := y
        obtain ⟨y0, y1, y2⟩ := hyr _ _ HP.it.g
        simp only at hyd y0 y1 y2
        clear hyok hyr
        have j2 : (k : Int) < N := by omega
        have j4 : (k : Int) ≤ 9223372036854775806 := by omega
        have DQ := Aside.mk (Tw7.doQ HP ⟨yk, yn, yd⟩ hyd)
        go_wp2_with (first | (go_at_call 16; with_reducible refine DQ.it.mono ?_; rintro e w7 ⟨v7, own7, rfl, R7⟩) | fail)
        all_goals first
          | (exfalso; omega)
          | skip
        go_roundw
        case rel => exact ⟨k + 1, own7, _, _, _, _, by go_num, .inr hb, R7⟩
        case measure => simp [intOf]; omega
      · have hb' : ¬ (k : Int) < N := by omega
        have HV1 := Aside.mk (haveC HP.it.p)
        have HV3 := Aside.mk (haveC HP.it.r)
        have SV1 := Aside.mk (spentC HP.it.p)
        have SV3 := Aside.mk (spentC HP.it.r)
        go_wp2_with (first
          | (go_at_call 14; with_reducible refine HV1.it.mono ?_; rintro e w' ⟨rfl, rfl⟩)
          | (go_at_call 14; with_reducible refine HV3.it.mono ?_; rintro e w' ⟨rfl, rfl⟩)
          | (go_at_call 15; with_reducible refine SV1.it.mono ?_; rintro e w' ⟨rfl, rfl⟩)
          | (go_at_call 15; with_reducible refine SV3.it.mono ?_; rintro e w' ⟨rfl, rfl⟩)
          | fail)
        all_goals first
          | (exfalso; omega)
          | skip
        go_ret
        exact ⟨rfl, HP.it.g.g.bel⟩
end Go.Proofs.YtefaicgfcibofaaDoor
