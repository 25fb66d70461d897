/-
  CreditPlays, walked.
-/
import Derived.Test.YtefaicgfcibofaaDoorRef07
namespace Go.Proofs.YtefaicgfcibofaaDoor
open Go.RowKit

set_option maxRecDepth 20000 in
set_option maxHeartbeats 4000000 in
theorem creditPlays_walk {A : Nat → Addr} (script : Value) (zs : List OpV7) (w : World) (hs : Sents 70 codeVars A w) (hz : Ops7Arg w script zs) :
    Calls Tryd.prog 3 #[script] w fun e w' => e = .returned (.bool true) ∧ Below w.heap.size w w' := by
  obtain ⟨sa, sc, rfl, hlc, hmx, hat⟩ := hz
  obtain ⟨M, hM⟩ : ∃ M, Aside (M = zs.length) := ⟨_, ⟨rfl⟩⟩
  rw [← hM.it] at hlc ⊢
  have AW := Aside.mk (awake7 hs)
  have G0 := Aside.mk (OnG.start hs)
  have HAT := Aside.mk (fun k hk => ListAt.read (A := A) hM.it hat k hk)
  have hM63 : (M : Int) ≤ 9223372036854775807 := by
    have : sc ≤ 9223372036854775807 := hmx
    omega
  clear hs hat hmx
  go_enter Tryd.func3, Tryd.ntmps3
  go_upto_region 4 with (first
    | (go_at_call 7; refine N1.it.mono ?_; rintro e w2 ⟨p, own2, rfl, X2⟩)
    | (go_at_call 6; refine AW.it.mono ?_; rintro e w1 ⟨rfl, b1⟩; have G1 := Aside.mk (G0.it.quiet (Keeps.ofBelow (S := Nowhere) b1.it)); have N1 := Aside.mk (newC_ok 1 w1 (fun _ => 0) 1 (by decide) (by decide))) | fail)
  have RN := Aside.mk (refNew_ok 1 w2 (by decide) (by decide))
  clear N1
  go_upto_region 5 with (first
    | (go_at_call 8; refine RN.it.mono ?_; rintro e w3 ⟨rfl, k3⟩) | fail)
  obtain ⟨own4, P4⟩ : ∃ own4, Aside (Py7 A w p w3.heap.size 1 1 0 own4 (w3.alloc (.cells #[.int .i64 1, .int .i64 1, .int .u64 0] 31))) := by
    have k : Keeps Nowhere w2 (w3.alloc (.cells #[.int .i64 1, .int .i64 1, .int .u64 0] 31)) := k3.it.alloc _
    have s1 : Sn (fun _ => False) own2 w2 (give own2 w3.heap.size 2) (w3.alloc (.cells #[.int .i64 1, .int .i64 1, .int .u64 0] 31)) := ⟨fun j hj => give_old (Nat.lt_of_lt_of_le hj k3.it.size), k.any⟩
    exact ⟨_, ⟨X2.it.1.sn s1 (fun x => x), ⟨Cells.new w3 _ _, give_new (Nat.le_refl _)⟩, (G1.it.sn X2.it.2.2 (fun x => x)).sn s1 (fun x => x)⟩⟩
  obtain ⟨W4, hW4⟩ : ∃ W4, W4 = w3.alloc (.cells #[.int .i64 1, .int .i64 1, .int .u64 0] 31) := ⟨_, rfl⟩
  rw [← hW4] at P4 ⊢
  obtain ⟨rb, hrb⟩ : ∃ rb, Aside (rb = w3.heap.size) := ⟨_, ⟨rfl⟩⟩
  rw [← hrb.it] at P4 ⊢
  clear hW4 hrb RN AW G0 G1 X2 b1 k3
  go_upto_region 6 with fail
  go_loopw [3, 7] (fun sv i wr => ∃ (k p : Nat) (own : Nat → Nat) (W c s : Int), sv = ptr p ∧ i = .int .i64 k ∧ k ≤ M ∧ Aside (Py7 A w p rb W c s own wr)) (fun _ i _ => M - (intOf i).toNat)
  case atStart => exact ⟨0, p, own4, 1, 1, 0, rfl, rfl, Nat.zero_le _, P4⟩
  case round =>
    obtain ⟨k, p, own, W, c, s, rfl, rfl, hk, HP⟩ := hrel
    clear P4
    have i3 : (0 : Int) ≤ k := by omega
    rcases Nat.eq_or_lt_of_le hk with rfl | hlt
    · go_wp2
      all_goals first
        | (exfalso; omega)
        | skip
      go_ret
      exact ⟨rfl, HP.it.g.g.bel⟩
    · obtain ⟨z, sb, so, hok, rfl, hr⟩ := HAT.it k hlt
      have hd1 := hok.2.2.1
      have hd2 := hok.2.2.2
      obtain ⟨r0, r1, r2⟩ := hr _ _ HP.it.g
      obtain ⟨kind, n, d⟩ := z
      simp only at hd1 hd2 r0 r1 r2
      have i2 : (k : Int) < M := by omega
      have i4 : (k : Int) ≤ 9223372036854775806 := by omega
      clear hok hr
      go_upto_region 9 with fail
      obtain ⟨own1, R1⟩ : ∃ own1, Aside (Rp7 A w p rb wr.heap.size ⟨kind, n, d⟩ W c s W c s own1 (wr.alloc (.cells #[.int .i64 kind, .int .i64 n, .int .u32 d] 36))) := ⟨_, Rp7.start HP ⟨kind, n, d⟩⟩
      obtain ⟨W1, hW1⟩ : ∃ W1, W1 = wr.alloc (.cells #[.int .i64 kind, .int .i64 n, .int .u32 d] 36) := ⟨_, rfl⟩
      rw [← hW1] at R1 ⊢
      obtain ⟨b, hb⟩ : ∃ b, Aside (b = wr.heap.size) := ⟨_, ⟨rfl⟩⟩
      rw [← hb.it] at R1 ⊢
      clear hW1 hb r0 r1 r2 HP hk
      have hW1 := R1.it.send.w1
      have hW2 := R1.it.send.w2
      have hc1 := R1.it.send.c1
      have hc2 := R1.it.send.c2
      obtain ⟨⟨q0, q1, q2⟩, b0, b1, b2⟩ := Rp7.cells R1
      simp only at b0 b1 b2
      by_cases h1 : kind = 1
      · subst h1
        by_cases hn : 1 ≤ n ∧ n ≤ 2147483647
        · have hn1 := hn.1
          have hn2 := hn.2
          go_upto_region 13 with (first
            | (go_at_call 7; with_reducible refine (Rp7.new R1 n hn1 hn2).mono ?_; rintro e w2 ⟨p2, own2, rfl, R2⟩; obtain ⟨⟨q3, q4, q5⟩, b3, b4, b5⟩ := Rp7.cells R2; simp only at b3 b4 b5)
            | (go_at_call 8; refine (refNew_ok n _ hn1 hn2).mono ?_; rintro e w3 ⟨rfl, k3⟩)
            | fail)
          obtain ⟨own5, W5, tb, hW5, htb, R5⟩ : ∃ own5 W5 tb, W5 = w3.alloc (.cells #[.int .i64 n, .int .i64 n, .int .u64 0] 31) ∧ tb = w3.heap.size ∧ Aside (Rp7 A w p2 rb b ⟨1, n, d⟩ n n 0 W c s own5 W5 ∧ CellsO own5 5 W5 tb 31 [.int .i64 n, .int .i64 n, .int .u64 0]) := ⟨_, _, _, rfl, rfl, Rp7.temp (Rp7.quiet R2 k3.it) _ _ _⟩
          rw [← hW5, ← htb]
          clear hW5 htb k3 R2 q0 q1 q2 b0 b1 b2 q3 q4 q5 b3 b4 b5
          have CD := Aside.mk (Rp7.code (v := .nilIface) (k := 0) ⟨R5.it.1⟩ Coded.none)
          obtain ⟨⟨q0, q1, q2⟩, f0, f1, f2⟩ := Rp7.facts ⟨R5.it.1⟩
          have t0 : W5.cell? ⟨tb, 0, none⟩ = some (.int .i64 n) := by rw [R5.it.2.1.cell]; rfl
          have t1 : W5.cell? ⟨tb, 1, none⟩ = some (.int .i64 n) := by rw [R5.it.2.1.cell]; rfl
          have t2 : W5.cell? ⟨tb, 2, none⟩ = some (.int .u64 0) := by rw [R5.it.2.1.cell]; rfl
          have P5 := Rp7.put (Aside.mk R5.it.1)
          obtain ⟨W6, hW6⟩ : ∃ W6, W6 = put3 rb n n 0 W5 := ⟨_, rfl⟩
          rw [← hW6] at P5
          unfold put3 at hW6
          go_upto_region 16 with (first
            | (go_at_call 9; with_reducible refine CD.it.mono ?_; rintro e w' ⟨rfl, rfl⟩)
            | fail)
          clear CD R1
          go_region
          rw [← hW6]
          have P6 := Py7.quiet P5 (Keeps.refl _ _).drew
          obtain ⟨W7, hW7⟩ : ∃ W7, W7 = W6.drew := ⟨_, rfl⟩
          rw [← hW7] at P6 ⊢
          clear hW6 hW7 t0 t1 t2 q0 q1 q2 f0 f1 f2 R5 P5
          go_upto_region 29 with fail
          obtain ⟨q0, q1, q2⟩ := Py7.cells P6
          have HV := Aside.mk (Py7.have_ P6)
          have SV := Aside.mk (Py7.spent P6)
          go_quiet (first | (go_at_call 14; exact HV.it _) | (go_at_call 15; exact SV.it _))
          go_wp2
          go_roundw
          case rel => exact ⟨k + 1, p2, own5, n, n, 0, rfl, by go_num, by omega, Py7.quiet P6 ((Keeps.refl _ _).drewN _)⟩
          case measure => simp [intOf]; omega
        · have hn' : n < 1 ∨ 2147483647 < n := by omega
          go_upto_region 13 with (first
            | (go_at_call 7; with_reducible refine (Rp7.newNo R1 n hn').mono ?_; rintro e w2 ⟨rfl, R2⟩; obtain ⟨⟨q3, q4, q5⟩, b3, b4, b5⟩ := Rp7.cells R2; simp only at b3 b4 b5)
            | (go_at_call 8; refine (refNew_no n _ hn').mono ?_; rintro e w3 ⟨rfl, k3⟩)
            | fail)
          obtain ⟨own5, W5, hW5, R5⟩ : ∃ own5 W5, W5 = w3.alloc (.cells #[.int .i64 0, .int .i64 0, .int .u64 0] 31) ∧ Aside (Rp7 A w p rb b ⟨1, n, d⟩ W c s W c s own5 W5) := ⟨_, _, rfl, ⟨(Rp7.temp (Rp7.quiet R2 k3.it) _ _ _).it.1⟩⟩
          rw [← hW5]
          clear hW5 k3 R2 q0 q1 q2 b0 b1 b2 q3 q4 q5 b3 b4 b5
          have CD := Aside.mk (Rp7.code (k := 2) R5 (Coded.mk 1 2 (by decide) (by decide) rfl))
          have P6 := Rp7.py R5
          go_upto_region 29 with (first
            | (go_at_call 9; with_reducible refine CD.it.mono ?_; rintro e w' ⟨rfl, rfl⟩)
            | fail)
          clear CD R1 R5
          obtain ⟨q0, q1, q2⟩ := Py7.cells P6
          have HV := Aside.mk (Py7.have_ P6)
          have SV := Aside.mk (Py7.spent P6)
          go_quiet (first | (go_at_call 14; exact HV.it _) | (go_at_call 15; exact SV.it _))
          go_wp2
          go_roundw
          case rel => exact ⟨k + 1, p, own5, W, c, s, rfl, by go_num, by omega, Py7.quiet P6 ((Keeps.refl _ _).drewN _)⟩
          case measure => simp [intOf]; omega
      · by_cases h2 : kind = 2
        · subst h2
          go_upto_region 20 with (first
            | (go_at_call 10; with_reducible refine (Rp7.spend R1 n).mono ?_; rintro e w2 ⟨v2, own2, rfl, hv2, R2⟩; obtain ⟨⟨q3, q4, q5⟩, b3, b4, b5⟩ := Rp7.cells R2; simp only at b3 b4 b5)
            | (go_at_call 11; refine (refSpend_any n _ hc1 (by omega)).mono ?_; rintro e w3 ⟨rfl, k3⟩)
            | fail)
          obtain ⟨own5, W5, tb, hW5, htb, R5⟩ : ∃ own5 W5 tb, W5 = w3.alloc (.cells #[.int .i64 W, .int .i64 (spC c n), .int .u64 (spS c s n)] 31) ∧ tb = w3.heap.size ∧ Aside (Rp7 A w p rb b ⟨2, n, d⟩ W (spC c n) (spS c s n) W c s own5 W5 ∧ CellsO own5 5 W5 tb 31 [.int .i64 W, .int .i64 (spC c n), .int .u64 (spS c s n)]) := ⟨_, _, _, rfl, rfl, Rp7.temp (Rp7.quiet R2 k3.it) _ _ _⟩
          rw [← hW5, ← htb]
          clear hW5 htb k3 R2 q0 q1 q2 b0 b1 b2 q3 q4 q5 b3 b4 b5
          obtain ⟨⟨q0, q1, q2⟩, f0, f1, f2⟩ := Rp7.facts ⟨R5.it.1⟩
          have t0 : W5.cell? ⟨tb, 0, none⟩ = some (.int .i64 W) := by rw [R5.it.2.1.cell]; rfl
          have t1 : W5.cell? ⟨tb, 1, none⟩ = some (.int .i64 (spC c n)) := by rw [R5.it.2.1.cell]; rfl
          have t2 : W5.cell? ⟨tb, 2, none⟩ = some (.int .u64 (spS c s n)) := by rw [R5.it.2.1.cell]; rfl
          have P6 := Rp7.put (Aside.mk R5.it.1)
          obtain ⟨W6, hW6⟩ : ∃ W6, W6 = put3 rb W (spC c n) (spS c s n) W5 := ⟨_, rfl⟩
          rw [← hW6] at P6
          unfold put3 at hW6
          go_upto_region 21 with fail
          rw [← hW6]
          clear hW6 t0 t1 t2 q0 q1 q2 f0 f1 f2 R5 R1
          have hC0 := P6.it.send.c1
          have hC1 : spC c n ≤ 2147483647 := Int.le_trans P6.it.send.c2 hW2
          have hS0 := P6.it.send.s1
          have hS1 := P6.it.send.s2
          obtain ⟨c', hc'⟩ : ∃ c', c' = spC c n := ⟨_, rfl⟩
          rw [← hc'] at P6 hC0 hC1 ⊢
          obtain ⟨s', hs'⟩ : ∃ s', s' = spS c s n := ⟨_, rfl⟩
          rw [← hs'] at P6 hS0 hS1 ⊢
          clear hc' hs'
          go_upto_region 29 with (first
            | (go_at_call 9; with_reducible refine (Py7.code P6 hv2).mono ?_; rintro e w' ⟨rfl, rfl⟩)
            | fail)
          obtain ⟨q0, q1, q2⟩ := Py7.cells P6
          have HV := Aside.mk (Py7.have_ P6)
          have SV := Aside.mk (Py7.spent P6)
          go_quiet (first | (go_at_call 14; exact HV.it _) | (go_at_call 15; exact SV.it _))
          go_wp2
          go_roundw
          case rel => exact ⟨k + 1, p, own5, W, c', s', rfl, by go_num, by omega, Py7.quiet P6 ((Keeps.refl _ _).drewN _)⟩
          case measure => simp [intOf]; omega
        · by_cases h3 : kind = 3
          · subst h3
            go_upto_region 26 with (first
              | (go_at_call 12; with_reducible refine (Rp7.grant R1 d hd1).mono ?_; rintro e w2 ⟨v2, own2, rfl, hv2, R2⟩; obtain ⟨⟨q3, q4, q5⟩, b3, b4, b5⟩ := Rp7.cells R2; simp only at b3 b4 b5)
              | (go_at_call 13; refine (refGrant_any d _ hc1 hc2 hW2 hd1 hd2).mono ?_; rintro e w3 ⟨rfl, k3⟩)
              | fail)
            obtain ⟨own5, W5, tb, hW5, htb, R5⟩ : ∃ own5 W5 tb, W5 = w3.alloc (.cells #[.int .i64 W, .int .i64 (grC W c d), .int .u64 (s)] 31) ∧ tb = w3.heap.size ∧ Aside (Rp7 A w p rb b ⟨3, n, d⟩ W (grC W c d) (s) W c s own5 W5 ∧ CellsO own5 5 W5 tb 31 [.int .i64 W, .int .i64 (grC W c d), .int .u64 (s)]) := ⟨_, _, _, rfl, rfl, Rp7.temp (Rp7.quiet R2 k3.it) _ _ _⟩
            rw [← hW5, ← htb]
            clear hW5 htb k3 R2 q0 q1 q2 b0 b1 b2 q3 q4 q5 b3 b4 b5
            obtain ⟨⟨q0, q1, q2⟩, f0, f1, f2⟩ := Rp7.facts ⟨R5.it.1⟩
            have t0 : W5.cell? ⟨tb, 0, none⟩ = some (.int .i64 W) := by rw [R5.it.2.1.cell]; rfl
            have t1 : W5.cell? ⟨tb, 1, none⟩ = some (.int .i64 (grC W c d)) := by rw [R5.it.2.1.cell]; rfl
            have t2 : W5.cell? ⟨tb, 2, none⟩ = some (.int .u64 (s)) := by rw [R5.it.2.1.cell]; rfl
            have P6 := Rp7.put (Aside.mk R5.it.1)
            obtain ⟨W6, hW6⟩ : ∃ W6, W6 = put3 rb W (grC W c d) (s) W5 := ⟨_, rfl⟩
            rw [← hW6] at P6
            unfold put3 at hW6
            go_upto_region 27 with fail
            rw [← hW6]
            clear hW6 t0 t1 t2 q0 q1 q2 f0 f1 f2 R5 R1
            have hC0 := P6.it.send.c1
            have hC1 : grC W c d ≤ 2147483647 := Int.le_trans P6.it.send.c2 hW2
            have hS0 := P6.it.send.s1
            have hS1 := P6.it.send.s2
            obtain ⟨c', hc'⟩ : ∃ c', c' = grC W c d := ⟨_, rfl⟩
            rw [← hc'] at P6 hC0 hC1 ⊢
            obtain ⟨s', hs'⟩ : ∃ s', s' = s := ⟨_, rfl⟩
            rw [← hs'] at P6 hS0 hS1 ⊢
            clear hc' hs'
            go_upto_region 29 with (first
              | (go_at_call 9; with_reducible refine (Py7.code P6 hv2).mono ?_; rintro e w' ⟨rfl, rfl⟩)
              | fail)
            obtain ⟨q0, q1, q2⟩ := Py7.cells P6
            have HV := Aside.mk (Py7.have_ P6)
            have SV := Aside.mk (Py7.spent P6)
            go_quiet (first | (go_at_call 14; exact HV.it _) | (go_at_call 15; exact SV.it _))
            go_wp2
            go_roundw
            case rel => exact ⟨k + 1, p, own5, W, c', s', rfl, by go_num, by omega, Py7.quiet P6 ((Keeps.refl _ _).drewN _)⟩
            case measure => simp [intOf]; omega
          · have P6 := Rp7.py R1
            clear q0 q1 q2
            go_upto_region 29 with fail
            clear b0 b1 b2 R1
            obtain ⟨q0, q1, q2⟩ := Py7.cells P6
            have HV := Aside.mk (Py7.have_ P6)
            have SV := Aside.mk (Py7.spent P6)
            go_quiet (first | (go_at_call 14; exact HV.it _) | (go_at_call 15; exact SV.it _))
            go_wp2
            go_roundw
            case rel => exact ⟨k + 1, p, own1, W, c, s, rfl, by go_num, by omega, Py7.quiet P6 ((Keeps.refl _ _).drewN _)⟩
            case measure => simp [intOf]; omega
end Go.Proofs.YtefaicgfcibofaaDoor
