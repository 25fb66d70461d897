/-
  CreditNever, walked.
-/
import Derived.Test.YtefaicgfcibofaaDoorCredC
namespace Go.Proofs.YtefaicgfcibofaaDoor
open Go.RowKit

/-- what a slice's k-th thing is, in a later world -/
theorem ListAt.read {w0 w : World} {own : Nat → Nat} {sa : Option Addr} {M : Nat} {zs : List OpV7} {A : Nat → Addr} (g : OnG A w0 own w) (hM : M = zs.length)
    (hat : ∀ i z, zs[i]? = some z → ∃ b o cs, sa = some ⟨b, o, none⟩ ∧ Op7Ok z cs ∧ cs.length = 3 ∧ ∀ j, j < 3 → w0.cell? ⟨b, o + i * 3 + j, none⟩ = cs[j]?) (k : Nat) (hk : k < M) :
    ∃ z sb so, Op7Ok z z.cells ∧ sa = some ⟨sb, so, none⟩ ∧ w.cell? ⟨sb, so + k * 3, none⟩ = some (.int .i64 z.kind) ∧ w.cell? ⟨sb, so + k * 3 + 1, none⟩ = some (.int .i64 z.n) ∧ w.cell? ⟨sb, so + k * 3 + 2, none⟩ = some (.int .u32 z.d) := by
  subst hM
  obtain ⟨sb, so, cs, rfl, hok, hl, hc⟩ := hat k zs[k] (List.getElem?_eq_getElem hk)
  have e := hok.1
  subst e
  have h0 := hc 0 (by decide)
  have h1 := hc 1 (by decide)
  have h2 := hc 2 (by decide)
  refine ⟨_, sb, so, hok, rfl, ?_, ?_, ?_⟩
  · exact g.g.cell rfl h0
  · exact g.g.cell rfl h1
  · exact g.g.cell rfl h2

set_option maxRecDepth 20000 in
set_option maxHeartbeats 4000000 in
theorem creditNever_walk {A : Nat → Addr} (n : Int) (script : Value) (zs : List OpV7) (w : World) (hs : Sents 70 codeVars A w) (hz : Ops7Arg w script zs) :
    Calls Tryd.prog 4 #[.int .i64 n, script] w fun e w' => e = .returned (.bool true) ∧ Below w.heap.size w w' := by
  obtain ⟨sa, sc, rfl, hlc, hmx, hat⟩ := hz
  obtain ⟨M, hM⟩ : ∃ M, Aside (M = zs.length) := ⟨_, ⟨rfl⟩⟩
  rw [← hM.it] at hlc ⊢
  have AW := Aside.mk (awake7 hs)
  have G0 := Aside.mk (OnG.start hs)
  have HAT := Aside.mk hat
  have hM63 : (M : Int) ≤ 9223372036854775807 := by
    have : sc ≤ 9223372036854775807 := hmx
    omega
  clear hs hat hmx
  by_cases hn : n < 1 ∨ 2147483647 < n
  · go_enter Tryd.func4, Tryd.ntmps4
    go_upto_region 5 with (first
      | (go_at_call 7; refine N.it.mono ?_; rintro e w2 ⟨rfl, k2⟩)
      | (go_at_call 6; refine AW.it.mono ?_; rintro e w1 ⟨rfl, b1⟩; have G1 := Aside.mk (G0.it.quiet (Keeps.ofBelow (S := Nowhere) b1.it)); have N := Aside.mk (newC_no n w1 G1.it.sents hn)) | fail)
    have G2 := Aside.mk (G1.it.quiet k2.it)
    have CD := Aside.mk (code_of (A := A) G2.it.sents (Coded.mk 1 2 (by decide) (by decide) rfl))
    have hn' : ¬ n < 1 → 2147483647 < n := by omega
    rcases hn with hn | hn
    · go_wp2_with (first | (go_at_call 9; refine CD.it.mono ?_; rintro e w' ⟨rfl, rfl⟩) | fail)
      go_ret
      exact ⟨rfl, G2.it.g.bel⟩
    · have hn1 : ¬ n < 1 := by omega
      go_wp2_with (first | (go_at_call 9; refine CD.it.mono ?_; rintro e w' ⟨rfl, rfl⟩) | fail)
      go_ret
      exact ⟨rfl, G2.it.g.bel⟩
  · have hn1 : ¬ n < 1 := by omega
    have hn2 : ¬ 2147483647 < n := by omega
    go_enter Tryd.func4, Tryd.ntmps4
    go_upto_region 11 with (first
      | (go_at_call 7; refine N.it.mono ?_; rintro e w2 ⟨p, own2, rfl, X2⟩)
      | (go_at_call 6; refine AW.it.mono ?_; rintro e w1 ⟨rfl, b1⟩; have G1 := Aside.mk (G0.it.quiet (Keeps.ofBelow (S := Nowhere) b1.it)); have N := Aside.mk (newC_ok n w1 (fun _ => 0) 1 (by omega) (by omega))) | fail)
    have P2 : Aside (Pl7 A w p n n 0 own2 w2) := ⟨X2.it.1, G1.it.sn X2.it.2.2 (fun x => x)⟩
    clear AW G0 N X2 G1 b1
    go_loopw [8, 9] (fun hv i wr => ∃ (k : Nat) (own : Nat → Nat) (c s : Int), i = .int .i64 k ∧ hv = .int .i64 c ∧ k ≤ M ∧ Aside (Pl7 A w p n c s own wr)) (fun _ i _ => M - (intOf i).toNat)
    case atStart => exact ⟨0, own2, n, 0, rfl, rfl, Nat.zero_le _, P2⟩
    case round =>
      obtain ⟨k, own, c, s, rfl, rfl, hk, HP⟩ := hrel
      clear P2
      rcases Nat.eq_or_lt_of_le hk with rfl | hlt
      · have HN := have_nil
        have SN := spent_nil
        go_wp2_with (first | (go_at_call 14; refine (have_nil _).mono ?_; rintro e w' ⟨rfl, rfl⟩) | (go_at_call 15; refine (spent_nil _).mono ?_; rintro e w' ⟨rfl, rfl⟩) | fail)
        all_goals first
          | (exfalso; omega)
          | skip
        go_ret
        exact ⟨rfl, HP.it.g.g.bel⟩
      · obtain ⟨z, sb, so, hok, rfl, r0, r1, r2⟩ := ListAt.read HP.it.g hM.it HAT.it k hlt
        have i2 : (k : Int) < M := by omega
        have i3 : (0 : Int) ≤ k := by omega
        have i4 : (k : Int) ≤ 9223372036854775806 := by omega
        go_upto_region 14 with fail
        obtain ⟨W1, hW1⟩ : ∃ W1, W1 = wr.alloc (.cells #[.int .i64 z.kind, .int .i64 z.n, .int .u32 z.d] 36) := ⟨_, rfl⟩
        obtain ⟨own1, R1⟩ : ∃ own1, Aside (Ro7 A w p wr.heap.size z n c s own1 W1) := ⟨_, by rw [hW1]; exact Ro7.start HP z⟩
        rw [← hW1]
        obtain ⟨b, hb⟩ : ∃ b, Aside (b = wr.heap.size) := ⟨_, ⟨rfl⟩⟩
        rw [← hb.it] at R1 ⊢
        clear hW1 r0 r1 r2 HP
        have hc1 := R1.it.pl.send.c1
        have hc2 := R1.it.pl.send.c2
        obtain ⟨kind, a, d⟩ := z
        obtain ⟨ha1, ha2⟩ := hok.2.1
        obtain ⟨hd1, hd2⟩ := hok.2.2
        clear hok
        simp only at ha1 ha2 hd1 hd2
        clear ha1
        have b0 := (Ro7.cells R1).1
        have b1 := (Ro7.cells R1).2.1
        have b2 := (Ro7.cells R1).2.2
        simp only at b0 b1 b2
        by_cases h2 : kind = 2
        · subst h2
          by_cases ho : 0 ≤ a ∧ a ≤ c
          · have ho1 := ho.1
            have ho2 := ho.2
            go_wp2_with (first
              | (go_at_call 10; with_reducible refine (spend7_nil (by with_reducible assumption) a).mono ?_; rintro e w4 ⟨rfl, R4⟩)
              | (go_at_call 10; with_reducible refine (spend7_ok (by with_reducible assumption) a ho1 ho2).mono ?_; rintro e w3 ⟨s3, own3, rfl, R3⟩; have q0 := (Ro7.cells R3).1; have q1 := (Ro7.cells R3).2.1; have q2 := (Ro7.cells R3).2.2; simp only at q0 q1 q2)
              | (go_at_call 9; with_reducible refine (code7_nil (by with_reducible assumption)).mono ?_; rintro e w' ⟨rfl, rfl⟩; have p0 := (Ro7.cells R4).1; have p1 := (Ro7.cells R4).2.1; have p2 := (Ro7.cells R4).2.2; simp only at p0 p1 p2)
              | (go_at_call 14; with_reducible refine (have7 (by with_reducible assumption)).mono ?_; rintro e w' ⟨rfl, rfl⟩)
              | fail)
            all_goals first
              | (exfalso; omega)
              | skip
            go_roundw
            case rel => exact ⟨k + 1, _, c - a, _, by go_num, by first | rfl | go_num, by omega, ⟨R4.it.pl⟩⟩
            case measure => simp [intOf]; omega
          · have ho' : a < 0 ∨ c < a := by omega
            rcases Int.lt_or_le a 0 with hn0 | hn0
            · have hn0' : ¬ 0 ≤ a := by omega
              go_wp2_with (first
                | (go_at_call 10; with_reducible refine (spend7_nil (by with_reducible assumption) a).mono ?_; rintro e w4 ⟨rfl, R4⟩)
                | (go_at_call 10; with_reducible refine (spend7_no (by with_reducible assumption) a ho').mono ?_; rintro e w3 ⟨a3, own3, rfl, R3⟩; have q0 := (Ro7.cells R3).1; have q1 := (Ro7.cells R3).2.1; have q2 := (Ro7.cells R3).2.2; simp only at q0 q1 q2)
                | (go_at_call 9; with_reducible refine (code7_nil (by with_reducible assumption)).mono ?_; rintro e w' ⟨rfl, rfl⟩; have p0 := (Ro7.cells R4).1; have p1 := (Ro7.cells R4).2.1; have p2 := (Ro7.cells R4).2.2; simp only at p0 p1 p2)
                | (go_at_call 14; with_reducible refine (have7 (by with_reducible assumption)).mono ?_; rintro e w' ⟨rfl, rfl⟩)
                | fail)
              all_goals first
                | (exfalso; omega)
                | skip
              go_roundw
              case rel => exact ⟨k + 1, _, c, _, by go_num, by first | rfl | go_num, by omega, ⟨R4.it.pl⟩⟩
              case measure => simp [intOf]; omega
            · have hn1' : ¬ a ≤ c := by omega
              go_wp2_with (first
                | (go_at_call 10; with_reducible refine (spend7_nil (by with_reducible assumption) a).mono ?_; rintro e w4 ⟨rfl, R4⟩)
                | (go_at_call 10; with_reducible refine (spend7_no (by with_reducible assumption) a ho').mono ?_; rintro e w3 ⟨a3, own3, rfl, R3⟩; have q0 := (Ro7.cells R3).1; have q1 := (Ro7.cells R3).2.1; have q2 := (Ro7.cells R3).2.2; simp only at q0 q1 q2)
                | (go_at_call 9; with_reducible refine (code7_nil (by with_reducible assumption)).mono ?_; rintro e w' ⟨rfl, rfl⟩; have p0 := (Ro7.cells R4).1; have p1 := (Ro7.cells R4).2.1; have p2 := (Ro7.cells R4).2.2; simp only at p0 p1 p2)
                | (go_at_call 14; with_reducible refine (have7 (by with_reducible assumption)).mono ?_; rintro e w' ⟨rfl, rfl⟩)
                | fail)
              all_goals first
                | (exfalso; omega)
                | skip
              go_roundw
              case rel => exact ⟨k + 1, _, c, _, by go_num, by first | rfl | go_num, by omega, ⟨R4.it.pl⟩⟩
              case measure => simp [intOf]; omega
        · by_cases h3 : kind = 3
          · subst h3
            by_cases ho : c + d ≤ n
            · skip
              go_wp2_with (first
                | (go_at_call 12; with_reducible refine (grant7_nil (by with_reducible assumption) d).mono ?_; rintro e w4 ⟨rfl, R4⟩)
                | (go_at_call 12; with_reducible refine (grant7_ok (by with_reducible assumption) d hd1 ho).mono ?_; rintro e w3 ⟨own3, rfl, R3⟩; have q0 := (Ro7.cells R3).1; have q1 := (Ro7.cells R3).2.1; have q2 := (Ro7.cells R3).2.2; simp only at q0 q1 q2)
                | (go_at_call 9; with_reducible refine (code7_nil (by with_reducible assumption)).mono ?_; rintro e w' ⟨rfl, rfl⟩; have p0 := (Ro7.cells R4).1; have p1 := (Ro7.cells R4).2.1; have p2 := (Ro7.cells R4).2.2; simp only at p0 p1 p2)
                | (go_at_call 14; with_reducible refine (have7 (by with_reducible assumption)).mono ?_; rintro e w' ⟨rfl, rfl⟩)
                | fail)
              all_goals first
                | (exfalso; omega)
                | skip
              go_roundw
              case rel => exact ⟨k + 1, _, c + d, _, by go_num, by first | rfl | go_num, by omega, ⟨R4.it.pl⟩⟩
              case measure => simp [intOf]; omega
            · have ho' : n < c + d := by omega
              go_wp2_with (first
                | (go_at_call 12; with_reducible refine (grant7_nil (by with_reducible assumption) d).mono ?_; rintro e w4 ⟨rfl, R4⟩)
                | (go_at_call 12; with_reducible refine (grant7_no (by with_reducible assumption) d hd1 ho').mono ?_; rintro e w3 ⟨a3, own3, rfl, R3⟩; have q0 := (Ro7.cells R3).1; have q1 := (Ro7.cells R3).2.1; have q2 := (Ro7.cells R3).2.2; simp only at q0 q1 q2)
                | (go_at_call 9; with_reducible refine (code7_nil (by with_reducible assumption)).mono ?_; rintro e w' ⟨rfl, rfl⟩; have p0 := (Ro7.cells R4).1; have p1 := (Ro7.cells R4).2.1; have p2 := (Ro7.cells R4).2.2; simp only at p0 p1 p2)
                | (go_at_call 14; with_reducible refine (have7 (by with_reducible assumption)).mono ?_; rintro e w' ⟨rfl, rfl⟩)
                | fail)
              all_goals first
                | (exfalso; omega)
                | skip
              go_roundw
              case rel => exact ⟨k + 1, _, c, _, by go_num, by first | rfl | go_num, by omega, ⟨R4.it.pl⟩⟩
              case measure => simp [intOf]; omega
          · go_wp2_with (first
              | (go_at_call 14; with_reducible refine (have7 (by with_reducible assumption)).mono ?_; rintro e w' ⟨rfl, rfl⟩)
              | fail)
            all_goals first
              | (exfalso; omega)
              | skip
            go_roundw
            case rel => exact ⟨k + 1, _, c, _, by go_num, rfl, by omega, ⟨R1.it.pl⟩⟩
            case measure => simp [intOf]; omega
end Go.Proofs.YtefaicgfcibofaaDoor
