/-
  StatesPaths, walked.
-/
import Derived.Test.YtbinopfcelebbaaDoorStE
namespace Go.Proofs.YtbinopfcelebbaaDoor
open Go.RowKit

section
variable {w w' : World} {A : Nat → Addr}
theorem path_ways {s : Int} {a b z : Nat} (hs0 : ¬ s = 0) (s0 : 0 ≤ s) (s1 : s < 8) (p4 : (s = 4 ∨ s = 6 → a = 1) ∧ (s ≠ 4 → s ≠ 6 → s ≠ 7 → a = 0)) (p5 : (s = 5 ∨ s = 6 → b = 1) ∧ (s ≠ 5 → s ≠ 6 → s ≠ 7 → b = 0)) (p6 : a ≤ 1) (p7 : b ≤ 1) (p8 : 0 < z ↔ s = 7) :
    ∃ g c cl fi, mayGo s = g ∧ mayCome s = c ∧ (s == 6) = cl ∧ (s == 7) = fi ∧
      (((g = true ∧ c = true ∧ cl = false ∧ fi = false) ∧ a = 0 ∧ b = 0 ∧ z = 0) ∨ ((g = false ∧ c = true ∧ cl = false ∧ fi = false) ∧ a = 1 ∧ b = 0 ∧ z = 0) ∨
      ((g = true ∧ c = false ∧ cl = false ∧ fi = false) ∧ a = 0 ∧ b = 1 ∧ z = 0) ∨ ((g = false ∧ c = false ∧ cl = true ∧ fi = false) ∧ a = 1 ∧ b = 1 ∧ z = 0) ∨
      ((g = false ∧ c = false ∧ cl = false ∧ fi = true) ∧ (a = 0 ∨ a = 1) ∧ (b = 0 ∨ b = 1) ∧ 0 < z)) := by
  refine ⟨_, _, _, _, rfl, rfl, rfl, rfl, ?_⟩
  rcases eight s0 s1 with rfl | rfl | rfl | rfl | rfl | rfl | rfl | rfl
  · exact absurd rfl hs0
  · exact .inl ⟨by decide, by omega⟩
  · exact .inl ⟨by decide, by omega⟩
  · exact .inl ⟨by decide, by omega⟩
  · exact .inr (.inl ⟨by decide, by omega⟩)
  · exact .inr (.inr (.inl ⟨by decide, by omega⟩))
  · exact .inr (.inr (.inr (.inl ⟨by decide, by omega⟩)))
  · exact .inr (.inr (.inr (.inr ⟨by decide, by omega⟩)))
set_option maxRecDepth 20000 in
set_option maxHeartbeats 4000000 in
theorem statesPaths_walk {A : Nat → Addr} (v : Value) (zs : List Int) (w : World) (hs : St9 A w) (hz : IntsIArg w v zs) : Calls Tryd.prog 7 #[v] w fun e w' => e = .returned (.bool true) ∧ Below w.heap.size w w' := by
  have H := Aside.mk hs
  have HZ := Aside.mk hz.1
  have H8 := Aside.mk hz.2
  obtain ⟨sa, sc, rfl, hlc, hmx, hat⟩ := hz.1
  obtain ⟨M, hM⟩ : ∃ M, Aside (M = zs.length) := ⟨_, ⟨rfl⟩⟩
  rw [← hM.it] at hlc HZ ⊢
  have hM63 : (M : Int) ≤ 9223372036854775807 := by
    have : sc ≤ 9223372036854775807 := hmx
    omega
  clear hs hz hat hmx
  obtain ⟨t1, t2, t3, t4, t5⟩ := pl_taken zs 0
  have HP := Aside.mk (path_of _ t3)
  rw [t2] at HP
  obtain ⟨s0, s1⟩ := pl_bound zs 0 (by decide)
  have HT := Aside.mk (HZ.it.take (plN 0 zs) t1)
  have HL : Aside ((zs.take (plN 0 zs)).length = plN 0 zs) := ⟨by rw [List.length_take, Nat.min_eq_left t1]⟩
  rw [← hM.it] at t1 t4 t5
  have EP := Aside.mk (fun (w : World) (v : Value) h z => play_p (A := A) (w := w) (v := v) (zs := zs) h z)
  clear t2 t3
  generalize zs.take (plN 0 zs) = ls at HP HT HL
  generalize plN 0 zs = n at EP HT HL t1 t4 t5
  generalize plS 0 zs = s at EP HP s0 s1
  generalize plE 0 zs = f at EP t4 t5
  go_enter Tryd.func7, Tryd.ntmps7
  go_upto_region 3 with (first | (go_at_call 9; refine (wakes_p H).mono ?_; rintro x w1 ⟨rfl, K1, H1⟩) | fail)
  have HZ1 := Aside.mk (HZ.it.quiet K1.it)
  clear H
  by_cases h0 : f = 0
  case' pos =>
    subst h0
    have t6 := t4 rfl
    clear t4 t5
    subst t6
    go_upto_region 8 with (first | (go_at_call 13; refine (events_p H1 HZ1 H8).mono ?_; rintro x w2 ⟨q, l, c, rfl, R2, K2, H2⟩) | (go_at_call 12; refine (EP.it _ _ H2 R2).mono ?_; rintro x w3 ⟨u, rfl, hu, K3, H3⟩; have e := hu.out.zero; subst e) | fail)
  case' neg =>
    have T5 := t5 h0
    have H0 := Aside.mk h0
    have j1 : ¬ (n : Int) < 0 := by omega
    have j2 : (n : Int) < M := by omega
    have j3 : ¬ (M : Int) ≤ n := by omega
    have j4 : n ≤ sc := by omega
    clear h0 t4 t5
    go_upto_region 8 with (first | (go_at_call 13; refine (events_p H1 HZ1 H8).mono ?_; rintro x w2 ⟨q, l, c, rfl, R2, K2, H2⟩) | (go_at_call 12; refine (EP.it _ _ H2 R2).mono ?_; rintro x w3 ⟨u, rfl, hu, K3, H3⟩; obtain ⟨a, e⟩ := hu.out.pos H0.it; subst e) | fail)
    clear H0 T5 j1 j2 j3 j4
  all_goals
    have HR := Aside.mk (((HT.it.quiet K1.it).quiet K2.it).quiet K3.it)
    have KK := Aside.mk ((K1.it.trans K2.it).trans K3.it)
    clear K1 K2 K3 R2 HZ1 HZ H1 H2 HT EP
    have CT := Aside.mk (fun y => count_any _ _ HR.it y)
    have C0 := Aside.mk (CT.it 0)
    have C1 := Aside.mk (CT.it 1)
    have C4 := Aside.mk (CT.it 4)
    have C5 := Aside.mk (CT.it 5)
    have C6 := Aside.mk (CT.it 6)
    obtain ⟨p1, p2, p3, p4, p5, p6, p7, p8, p9⟩ := HP.it
    have z6 := cnt_le ls 6
    rw [HL.it] at z6 p9
    clear CT HP
    have p1' : s = 0 ↔ n = 0 := by rw [p1, ← HL.it]; exact List.length_eq_zero_iff.symm
    generalize cnt ls 0 = o at C0 p3
    generalize cnt ls 1 = y at C1 p3
    generalize cnt ls 4 = a at C4 p4 p6
    generalize cnt ls 5 = b at C5 p5 p7
    generalize cnt ls 6 = z at C6 p8 p9 z6
    have HAT : Aside (∀ k x, ls[k]? = some x → ∃ sb so, sa = some ⟨sb, so, none⟩ ∧ w3.cell? ⟨sb, so + k, none⟩ = some (.int .i64 x)) := by
      obtain ⟨sa', sc', e, _, _, h3⟩ := HR.it
      injection e with e1 _ _
      subst e1
      exact ⟨fun k x hk => (h3 k x hk).2⟩
    have TB := Aside.mk H3.it.tab
    have P2 := Aside.mk p2
    have P9 := Aside.mk p9
    have n0 : (0 : Int) ≤ n := by omega
    clear p2 p9 p1 HR
    go_upto_region 9 with (first
      | (go_at_call 17; with_reducible refine C0.it.mono ?_; rintro x w4 ⟨rfl, rfl⟩) | (go_at_call 17; with_reducible refine C1.it.mono ?_; rintro x w4 ⟨rfl, rfl⟩)
      | (go_at_call 17; with_reducible refine C4.it.mono ?_; rintro x w4 ⟨rfl, rfl⟩) | (go_at_call 17; with_reducible refine C5.it.mono ?_; rintro x w4 ⟨rfl, rfl⟩)
      | (go_at_call 17; with_reducible refine C6.it.mono ?_; rintro x w4 ⟨rfl, rfl⟩) | fail)
    clear C0 C1 C4 C5 C6
    by_cases hn : n = 0
    · have e := p1'.2 hn
      subst e
      subst hn
      have S1 := Aside.mk (sends_any 0 TB.it)
      have S2 := Aside.mk (hears_any 0 TB.it)
      rw [show mayGo 0 = false from by decide] at S1
      rw [show mayCome 0 = false from by decide] at S2
      clear p3 p4 p5 p6 p7 p8
      go_wp2_with (first | (go_at_call 18; refine S1.it.mono ?_; rintro x w4 ⟨rfl, rfl⟩) | (go_at_call 19; refine S2.it.mono ?_; rintro x w4 ⟨rfl, rfl⟩) | fail)
      go_ret
      exact ⟨rfl, KK.it.bel⟩
    · have hs0 : ¬ s = 0 := fun e => hn (p1'.1 e)
      have hn1 : ((n : Int) == 0) = false := by simp only [beq_eq_false_iff_ne]; omega
      have hn2 : (0 : Int) < n := by omega
      have q3 : (o : Int) + y = 1 := by have := p3 hs0; omega
      have q6 : ¬ (1 : Int) < a := by omega
      have q7 : ¬ (1 : Int) < b := by omega
      obtain ⟨i0, hi0⟩ : ∃ i0, n = i0 + z := ⟨n - z, by omega⟩
      have q8 : (n : Int) - z = i0 := by omega
      have HI := Aside.mk hi0
      have hx : ls[0]? = some (ls[0]'(by rw [HL.it]; omega)) := List.getElem?_eq_getElem _
      generalize ls[0]'(by rw [HL.it]; omega) = x0 at hx
      obtain ⟨sb, so, rfl, hc⟩ := HAT.it 0 x0 hx
      have x01 := P2.it x0 hx
      have W2 := Aside.mk p4
      have W3 := Aside.mk p5
      have W4 := Aside.mk p8
      clear P2 hx p3 p4 p5 p8 hi0 z6 p1'
      rw [Nat.add_zero] at hc
      rcases x01 with rfl | rfl
      all_goals
        go_upto_region 15 with fail
        clear hc q3 q6 q7 q8 hn1 hn2
        have GO := Aside.mk (sends_any s TB.it)
        have CO := Aside.mk (hears_any s TB.it)
        have FI := Aside.mk (fun w => final_any s w)
        clear TB
        go_loopw [12] (fun x wr => ∃ i : Nat, x = .int .i64 i ∧ i0 ≤ i ∧ i ≤ n ∧ Aside (wr = w4)) (fun x _ => n - (intOf x).toNat)
        case atStart => exact ⟨i0, rfl, Nat.le_refl _, by have := HI.it; omega, ⟨rfl⟩⟩
        case round =>
          obtain ⟨i, rfl, l1, l2, WE⟩ := hrel
          have e := WE.it
          subst e
          rcases Nat.eq_or_lt_of_le l2 with e | hlt
          · subst e
            clear HAT P9 HI l1
            obtain ⟨g, c, cl, fi, e1, e2, e3, e4, ways⟩ := path_ways hs0 s0 s1 W2.it W3.it p6 p7 W4.it
            rw [e1] at GO
            rw [e2] at CO
            rw [e4] at FI
            clear e1 e2 W2 W3 W4 p6 p7 hs0 s0 s1
            rcases ways with ⟨⟨rfl, rfl, rfl, rfl⟩, rfl, rfl, rfl⟩ | ⟨⟨rfl, rfl, rfl, rfl⟩, rfl, rfl, rfl⟩ | ⟨⟨rfl, rfl, rfl, rfl⟩, rfl, rfl, rfl⟩ | ⟨⟨rfl, rfl, rfl, rfl⟩, rfl, rfl, rfl⟩ | ⟨⟨rfl, rfl, rfl, rfl⟩, rfl | rfl, rfl | rfl, hz⟩
            all_goals
              try have hz1 : (0 : Int) < z := by omega
              try have hz2 : ((z : Int) == 0) = false := by simp only [beq_eq_false_iff_ne]; omega
              go_wp2_with (first | (go_at_call 18; refine GO.it.mono ?_; rintro x w5 ⟨rfl, rfl⟩) | (go_at_call 19; refine CO.it.mono ?_; rintro x w5 ⟨rfl, rfl⟩) | (go_at_call 20; refine (FI.it _).mono ?_; rintro x w5 ⟨rfl, rfl⟩) | fail)
              go_ret
              exact ⟨rfl, KK.it.bel⟩
          · have hx : ls[i]? = some (ls[i]'(by rw [HL.it]; exact hlt)) := List.getElem?_eq_getElem _
            generalize ls[i]'(by rw [HL.it]; exact hlt) = x at hx
            obtain ⟨_, _, e, hc⟩ := HAT.it i x hx
            injection e with e
            injection e with e1 e2
            subst e1 e2
            have h6 := P9.it i x (by have := HI.it; omega) hx
            subst h6
            have i2 : (i : Int) < n := by omega
            have i3 : (0 : Int) ≤ i := by omega
            have i4 : (i : Int) ≤ 9223372036854775806 := by omega
            clear hx HAT
            go_wp2
            go_roundw
            case rel => exact ⟨i + 1, by go_num, by omega, hlt, ⟨by first | rfl | trivial⟩⟩
            case measure => simp [intOf]; omega
end
end Go.Proofs.YtbinopfcelebbaaDoor
