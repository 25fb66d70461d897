/-
  GrantPair, walked.
-/
import Derived.Test.YtkkfjbjlggkhiaaDoorGrantP
namespace Go.Proofs.YtkkfjbjlggkhiaaDoor
open Go.RowKit

theorem clamp8 (a l : Int) (h : 0 ≤ l) : ∃ x, x = (if l < if a < 0 then 0 else a then l else if a < 0 then 0 else a) ∧ 0 ≤ x ∧ x ≤ l := by
  refine ⟨_, rfl, ?_, ?_⟩
  · by_cases c : a < 0
    · simp only [if_pos c]; split <;> omega
    · simp only [if_neg c]; split <;> omega
  · by_cases c : a < 0
    · simp only [if_pos c]; split <;> omega
    · simp only [if_neg c]; split <;> omega
set_option maxRecDepth 20000 in
set_option maxHeartbeats 4000000 in
theorem grantPair_walk {A : Nat → Addr} (n : Int) (va : Value) (zs : List Int) (vb : Value) (ys : List Int) (w : World) (hs : Sents 89 sixVars A w) (hz : Ints8Arg w va zs) (hy : Ints8Arg w vb ys) :
    Calls Tryd.prog 6 #[.int .i64 n, va, vb] w fun e w' => e = .returned (.bool true) ∧ Below w.heap.size w w' := by
  obtain ⟨sa, sc, rfl, hlc, hmx, hat⟩ := hz
  obtain ⟨ta, tc, rfl, htc, hmy, hbt⟩ := hy
  obtain ⟨M, hM⟩ : ∃ M, Aside (M = zs.length) := ⟨_, ⟨rfl⟩⟩
  obtain ⟨N, hN⟩ : ∃ N, Aside (N = ys.length) := ⟨_, ⟨rfl⟩⟩
  rw [← hM.it] at hlc ⊢
  rw [← hN.it] at htc ⊢
  have HAT := Aside.mk (fun k hk => Ints8.read hM.it hat k hk)
  have HBT := Aside.mk (fun k hk => Ints8.read hN.it hbt k hk)
  have hM63 : (M : Int) ≤ 9223372036854775807 := by
    have : sc ≤ 9223372036854775807 := hmx
    omega
  have hN63 : (N : Int) ≤ 9223372036854775807 := by
    have : tc ≤ 9223372036854775807 := hmy
    omega
  have OV : Aside (∃ a, w.cell? ⟨4, 0, none⟩ = some (.iface 89 (.pointer (some a)))) := ⟨⟨_, hs.cell 2 4 rfl⟩⟩
  obtain ⟨A', S8⟩ : ∃ A', Aside (Sent8 A' w) := ⟨_, ⟨hs.six⟩⟩
  have F := Aside.mk (fixed8 S8.it)
  have G0 := Aside.mk (OnF.start S8.it)
  clear hs hat hmx hbt hmy S8
  by_cases hn : n < 1 ∨ 2147483647 < n
  · go_enter Tryd.func6, Tryd.ntmps6
    go_upto_region 4 with (first
      | (go_at_call 23; refine N1.it.mono ?_; rintro e w2 ⟨rfl, k2⟩)
      | (go_at_call 13; refine F.it.mono ?_; rintro e w1 ⟨rfl, b1⟩; have G1 := Aside.mk (G0.it.quiet (Keeps.ofBelow (S := Nowhere) b1.it)); have N1 := Aside.mk (newC_noc n w1 G1.it.sents.range hn)) | fail)
    have G2 := Aside.mk (G1.it.quiet k2.it)
    have N2 := Aside.mk (newG_no n w2 G2.it.sents hn)
    go_wp2_with (first | (go_at_call 9; refine N2.it.mono ?_; rintro e w3 ⟨rfl, k3⟩) | fail)
    go_ret
    exact ⟨rfl, (G2.it.quiet k3.it).g.bel⟩
  · have hn1 : 1 ≤ n := by omega
    have hn2 : n ≤ 2147483647 := by omega
    clear hn
    go_enter Tryd.func6, Tryd.ntmps6
    go_upto_region 4 with (first
      | (go_at_call 23; refine N1.it.mono ?_; rintro e w2 ⟨q, own2, rfl, X2⟩)
      | (go_at_call 13; refine F.it.mono ?_; rintro e w1 ⟨rfl, b1⟩; have G1 := Aside.mk (G0.it.quiet (Keeps.ofBelow (S := Nowhere) b1.it)); have N1 := Aside.mk (newC_ok n w1 (fun _ => 0) 2 hn1 hn2)) | fail)
    have N2 := Aside.mk (newG_ok n w2 own2 1 hn1 hn2)
    go_upto_region 7 with (first | (go_at_call 9; refine N2.it.mono ?_; rintro e w3 ⟨p, own3, rfl, X3⟩) | fail)
    have P3 : Aside (Pr8 A' w p q n n n 0 0 own3 w3) := ⟨X3.it.1.recv, ⟨0, X2.it.1.sn X3.it.2.2 (fun x => x)⟩, (G1.it.sn X2.it.2.2 (fun x => x)).sn X3.it.2.2 (fun x => x), OV.it⟩
    clear F G0 G1 N1 N2 X2 X3 OV b1
    go_upto_region 8 with fail
    go_loopw [44] (fun i wr => ∃ (k : Nat) (own : Nat → Nat) (l u o : Int), i = .int .i64 k ∧ k ≤ M ∧ Aside (Pr8 A' w p q n l l u o own wr)) (fun i _ => M - (intOf i).toNat)
    case atStart => exact ⟨0, own3, n, 0, 0, rfl, Nat.zero_le _, P3⟩
    case round =>
      obtain ⟨k, own, l, u, o, rfl, hk, HP⟩ := hrel
      clear P3
      obtain ⟨⟨l1, u1, o1⟩, su, _, _, ow⟩ := Pr8.facts HP
      have i3 : (0 : Int) ≤ k := by omega
      rcases Nat.eq_or_lt_of_le hk with rfl | hlt
      · clear HAT HBT
        go_upto_region 20 with (first
          | (go_at_call 21; with_reducible refine (pr_unread HP).mono ?_; rintro e w5 ⟨rfl, P5⟩)
          | (go_at_call 19; with_reducible refine (pr_read P5 u u1 (Int.le_refl _)).mono ?_; rintro e w6 ⟨g, ⟨g1, g2, g3⟩, rfl, P6⟩)
          | fail)
        all_goals first
          | (exfalso; omega)
          | skip
        obtain ⟨⟨m1, m2, m3⟩, sv, _, _, ov⟩ := Pr8.facts P6
        have gl : l + g ≤ n := by omega
        have gp : 0 < l + g := by omega
        have PG := Aside.mk (pr_grant P6 g g1 gl)
        clear P5 HP
        go_wp2_with (first
          | (go_at_call 26; refine PG.it.mono ?_; rintro e w7 ⟨rfl, P7⟩)
          | (go_at_call 24; with_reducible refine (pr_have (by with_reducible assumption)).mono ?_; rintro e w' ⟨rfl, rfl⟩) | (go_at_call 11; with_reducible refine (pr_left (by with_reducible assumption)).mono ?_; rintro e w5 ⟨rfl, P5⟩) | (go_at_call 21; with_reducible refine (pr_unread (by with_reducible assumption)).mono ?_; rintro e w5 ⟨rfl, P5⟩)
          | fail)
        all_goals first
          | (exfalso; omega)
          | skip
        go_ret
        exact ⟨rfl, P5.it.g.g.bel⟩
      · obtain ⟨a, sb, so, ha, rfl, hr⟩ := HAT.it k hlt
        have r0 := hr _ _ HP.it.g.g
        have i2 : (k : Int) < M := by omega
        have i4 : (k : Int) ≤ 9223372036854775806 := by omega
        clear hr hk
        go_upto_region 11 with (first | (go_at_call 24; with_reducible refine (pr_have (by with_reducible assumption)).mono ?_; rintro e w' ⟨rfl, rfl⟩) | (go_at_call 11; with_reducible refine (pr_left (by with_reducible assumption)).mono ?_; rintro e w5 ⟨rfl, P5⟩) | (go_at_call 21; with_reducible refine (pr_unread (by with_reducible assumption)).mono ?_; rintro e w5 ⟨rfl, P5⟩) | fail)
        obtain ⟨x, hx, x1, x2⟩ : ∃ x, x = (if l < if a < 0 then 0 else a then l else if a < 0 then 0 else a) ∧ 0 ≤ x ∧ x ≤ l := clamp8 a l l1
        rw [← hx]
        obtain ⟨x0, hx0⟩ : ∃ x0, x0 = (if a < 0 then 0 else a) := ⟨_, rfl⟩
        rw [← hx0]
        clear hx hx0 r0
        go_upto_region 13 with (first
          | (go_at_call 25; with_reducible refine (pr_spend HP x x1 x2).mono ?_; rintro e w4 ⟨rfl, P4⟩)
          | (go_at_call 17; with_reducible refine (pr_arrive P4 x x1 x2).mono ?_; rintro e w6 ⟨rfl, P6⟩)
          | (go_at_call 24; with_reducible refine (pr_have (by with_reducible assumption)).mono ?_; rintro e w' ⟨rfl, rfl⟩) | (go_at_call 11; with_reducible refine (pr_left (by with_reducible assumption)).mono ?_; rintro e w5 ⟨rfl, P5⟩) | (go_at_call 21; with_reducible refine (pr_unread (by with_reducible assumption)).mono ?_; rintro e w5 ⟨rfl, P5⟩)
          | fail)
        all_goals first
          | (exfalso; omega)
          | skip
        obtain ⟨l', hl'⟩ : ∃ l', l' = l - x := ⟨_, rfl⟩
        obtain ⟨u', hu'⟩ : ∃ u', u' = u + x := ⟨_, rfl⟩
        rw [← hl', ← hu'] at P5
        have P7 := P5
        clear P5 P4 P6 HP hl' hu' l1 u1 o1 su ow x1 x2
        obtain ⟨⟨l1, u1, o1⟩, su, _, _, ow⟩ := Pr8.facts P7
        rcases Nat.lt_or_ge k N with hb | hb
        · obtain ⟨bv, tb, to_, hbv, rfl, hr⟩ := HBT.it k hb
          have j2 : (k : Int) < N := by omega
          have r1 := hr _ _ P7.it.g.g
          have HR : Aside (∀ w', Aside (Pr8 A' w p q n l' l' u' o own w') → w'.cell? ⟨tb, to_ + k, none⟩ = some (.int .i64 bv)) := ⟨fun _ h => hr _ _ h.it.g.g⟩
          have UR : Aside (∀ w', Aside (Pr8 A' w p q n l' l' u' o own w') → Calls Tryd.prog 21 #[ptr p] w' fun e w'' => e = .returned (.int .i64 u') ∧ Aside (Pr8 A' w p q n l' l' u' o own w'')) := ⟨fun _ h => pr_unread h⟩
          have P7d : Aside (Pr8 A' w p q n l' l' u' o own _) := Pr8.quiet P7 ⟨(Keeps.refl _ _).drew⟩
          clear hr
          by_cases v1 : bv < 0
          · have v2 : ¬ u' < 0 := by omega
            go_upto_region 14 with fail
            go_region_held_law (fun w' => w'.cell? ⟨tb, to_ + k, none⟩ = some (.int .i64 bv)) (exact HR.it _ (by with_reducible assumption)) (first
              | (go_at_call 21; with_reducible refine (UR.it _ (by with_reducible assumption)).mono ?_; rintro e w7 ⟨rfl, P8⟩)
              | fail)
            all_goals clear UR HR
            all_goals go_wp2_with (first
              | (go_at_call 19; with_reducible refine (pr_read (by with_reducible assumption) 0 (by decide) u1).mono ?_; rintro e w8 ⟨g, ⟨g1, g2, g3⟩, rfl, P8⟩; obtain ⟨⟨q1, q2, q3⟩, sq, _, _, oq⟩ := Pr8.facts P8; have gl : l' + g ≤ n := by omega)
              | (go_at_call 26; with_reducible refine (pr_grant P8 g g1 gl).mono ?_; rintro e w9 ⟨rfl, P9⟩)
              | (go_at_call 24; with_reducible refine (pr_have (by with_reducible assumption)).mono ?_; rintro e w' ⟨rfl, rfl⟩) | (go_at_call 11; with_reducible refine (pr_left (by with_reducible assumption)).mono ?_; rintro e w5 ⟨rfl, P5⟩) | (go_at_call 21; with_reducible refine (pr_unread (by with_reducible assumption)).mono ?_; rintro e w5 ⟨rfl, P5⟩)
              | fail)
            all_goals first
              | (exfalso; omega)
              | skip
            all_goals (go_roundw; (case rel => exact ⟨k + 1, own, _, _, _, by go_num, by omega, by with_reducible assumption⟩); (case measure => simp [intOf]; omega))
          · by_cases v2 : u' < bv
            · skip
              go_upto_region 14 with fail
              go_region_held_law (fun w' => w'.cell? ⟨tb, to_ + k, none⟩ = some (.int .i64 bv)) (exact HR.it _ (by with_reducible assumption)) (first
                | (go_at_call 21; with_reducible refine (UR.it _ (by with_reducible assumption)).mono ?_; rintro e w7 ⟨rfl, P8⟩)
                | fail)
              all_goals clear UR HR
              all_goals go_wp2_with (first
                | (go_at_call 19; with_reducible refine (pr_read (by with_reducible assumption) u' u1 (Int.le_refl _)).mono ?_; rintro e w8 ⟨g, ⟨g1, g2, g3⟩, rfl, P8⟩; obtain ⟨⟨q1, q2, q3⟩, sq, _, _, oq⟩ := Pr8.facts P8; have gl : l' + g ≤ n := by omega)
                | (go_at_call 26; with_reducible refine (pr_grant P8 g g1 gl).mono ?_; rintro e w9 ⟨rfl, P9⟩)
                | (go_at_call 24; with_reducible refine (pr_have (by with_reducible assumption)).mono ?_; rintro e w' ⟨rfl, rfl⟩) | (go_at_call 11; with_reducible refine (pr_left (by with_reducible assumption)).mono ?_; rintro e w5 ⟨rfl, P5⟩) | (go_at_call 21; with_reducible refine (pr_unread (by with_reducible assumption)).mono ?_; rintro e w5 ⟨rfl, P5⟩)
                | fail)
              all_goals first
                | (exfalso; omega)
                | skip
              all_goals (go_roundw; (case rel => exact ⟨k + 1, own, _, _, _, by go_num, by omega, by with_reducible assumption⟩); (case measure => simp [intOf]; omega))
            · skip
              go_upto_region 14 with fail
              go_region_held_law (fun w' => w'.cell? ⟨tb, to_ + k, none⟩ = some (.int .i64 bv)) (exact HR.it _ (by with_reducible assumption)) (first
                | (go_at_call 21; with_reducible refine (UR.it _ (by with_reducible assumption)).mono ?_; rintro e w7 ⟨rfl, P8⟩)
                | fail)
              all_goals clear UR HR
              all_goals go_wp2_with (first
                | (go_at_call 19; with_reducible refine (pr_read (by with_reducible assumption) bv (by omega) (by omega)).mono ?_; rintro e w8 ⟨g, ⟨g1, g2, g3⟩, rfl, P8⟩; obtain ⟨⟨q1, q2, q3⟩, sq, _, _, oq⟩ := Pr8.facts P8; have gl : l' + g ≤ n := by omega)
                | (go_at_call 26; with_reducible refine (pr_grant P8 g g1 gl).mono ?_; rintro e w9 ⟨rfl, P9⟩)
                | (go_at_call 24; with_reducible refine (pr_have (by with_reducible assumption)).mono ?_; rintro e w' ⟨rfl, rfl⟩) | (go_at_call 11; with_reducible refine (pr_left (by with_reducible assumption)).mono ?_; rintro e w5 ⟨rfl, P5⟩) | (go_at_call 21; with_reducible refine (pr_unread (by with_reducible assumption)).mono ?_; rintro e w5 ⟨rfl, P5⟩)
                | fail)
              all_goals first
                | (exfalso; omega)
                | skip
              all_goals (go_roundw; (case rel => exact ⟨k + 1, own, _, _, _, by go_num, by omega, by with_reducible assumption⟩); (case measure => simp [intOf]; omega))
        · have hb' : ¬ (k : Int) < N := by omega
          go_wp2_with fail
          all_goals first
            | (exfalso; omega)
            | skip
          go_roundw
          case rel => exact ⟨k + 1, own, _, _, _, by go_num, by omega, P7⟩
          case measure => simp [intOf]; omega
end Go.Proofs.YtkkfjbjlggkhiaaDoor
