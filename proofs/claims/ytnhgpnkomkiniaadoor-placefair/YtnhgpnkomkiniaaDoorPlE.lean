/-
  the document's Pick
-/
import Derived.Test.YtnhgpnkomkiniaaDoorPlC
import Derived.Deep.CutBlock
namespace Go.Proofs.YtnhgpnkomkiniaaDoor
open Go.RowKit

variable {A : Nat → Addr} {w w' W : World}

theorem lst_ex (most : Int) (zs : List LoadV) : ∀ k, k ≤ zs.length → ∃ i, Lst most zs k i
  | 0, _ => ⟨-1, .inl ⟨rfl, rfl⟩⟩
  | k + 1, hk => by
    obtain ⟨i, hi⟩ := lst_ex most zs k (by omega)
    obtain ⟨y, hy⟩ : ∃ y, zs[k]? = some y := ⟨_, List.getElem?_eq_getElem (by omega)⟩
    rcases id hi with ⟨rfl, rfl⟩ | ⟨a, rfl, ha, z, hz, _⟩
    · exact ⟨0, Lst.first hy⟩
    · cases hb : lessB most y z
      · exact ⟨_, hi.stay hz hy hb⟩
      · exact ⟨_, hi.move hz hy hb⟩
theorem pick_or (most : Int) (zs : List LoadV) : (∃ a, IsPick most zs a) ∨ NoneMay most zs := by
  obtain ⟨i, hi⟩ := lst_ex most zs zs.length (Nat.le_refl _)
  rcases id hi with ⟨h0, _⟩ | ⟨a, rfl, ha, z, hz, _⟩
  · rw [List.eq_nil_of_length_eq_zero h0]; exact .inr NoneMay.nil.1
  · by_cases h : hN most z = 0
    · exact .inl ⟨a, hi.pick hz h⟩
    · exact .inr (hi.none hz h).1
theorem take_any {zs : List LoadV} {k : Nat} {z : LoadV} (p : LoadV → Bool) (h : zs[k]? = some z) : (zs.take (k + 1)).any p = ((zs.take k).any p || p z) := by
  rw [List.take_add_one, h]; simp

/-- what the document's Pick answers -/
def PickR (most : Int) (zs : List LoadV) (k c : Int) : Prop := (∃ a : Nat, k = a ∧ c = 0 ∧ IsPick most zs a) ∨ (k = 0 ∧ c = whyN most zs ∧ NoneMay most zs)
theorem PickR.ok {most : Int} {zs : List LoadV} {k c : Int} {a : Nat} (h : PickR most zs k c) (p : IsPick most zs a) : k = a ∧ c = 0 := by
  rcases h with ⟨a', rfl, rfl, p'⟩ | ⟨_, _, n⟩
  · rw [p.only p']; exact ⟨rfl, rfl⟩
  · exact (n.not p).elim
theorem PickR.no {most : Int} {zs : List LoadV} {k c : Int} (h : PickR most zs k c) (n : NoneMay most zs) : k = 0 ∧ c = whyN most zs := by
  rcases h with ⟨a', rfl, rfl, p'⟩ | ⟨h, h2, _⟩
  · exact (n.not p').elim
  · exact ⟨h, h2⟩
set_option maxHeartbeats 4000000 in
set_option maxRecDepth 20000 in
theorem refPick_any (v : Value) (zs : List LoadV) (most : Int) (hv : LdsAt w v zs) :
    Calls Tryd.prog 12 #[v, .int .i64 most] w fun e w' => ∃ k c, e = .returned (.tuple #[.int .i64 k, .int .i64 c]) ∧ Aside (PickR most zs k c) ∧ Aside (Keeps Nowhere w w') := by
  obtain ⟨pa, ca, rfl⟩ := hv.shape
  obtain ⟨_, hla, hma⟩ := hv.len
  obtain ⟨n, hn⟩ : ∃ n, Aside (n = zs.length) := ⟨_, ⟨rfl⟩⟩
  have hl : n ≤ 9223372036854775807 := by unfold maxLen at hma; have := hn.it; omega
  have HV := Aside.mk hv
  rw [← hn.it] at HV ⊢
  clear hv hla hma
  go_enter Tryd.func12, Tryd.ntmps12
  go_upto_block 0 with fail
  go_cut [6] (fun _ wx => Aside (NoneMay most zs) ∧ Aside (Keeps Nowhere w wx))
  case first =>
    go_wp2_with fail
    go_loopw [6] (fun iv wr => ∃ i : Nat, i ≤ n ∧ iv = .int .i64 i ∧ Aside (∀ j, j < i → ¬ IsPick most zs j) ∧ Aside (Keeps Nowhere w wr)) (fun iv _ => n - natOf21 iv)
    case atStart => exact ⟨0, Nat.zero_le _, rfl, ⟨fun _ h => (by omega)⟩, ⟨Keeps.refl _ _⟩⟩
    case round =>
      obtain ⟨i, hi, rfl, HN, HB⟩ := hrel
      by_cases hil : i < n
      · obtain ⟨l, d, o, f, b, s, hz, rfl, r0, r1, r2, r3, ho, hf⟩ := (HV.it.quiet HB.it).read i (by rw [← hn.it]; exact hil)
        have HZ := Aside.mk hz
        have i2 : (i : Int) < n := by omega
        have i3 : (0 : Int) ≤ i := by omega
        clear hz
        cases hm : LoadV.may most ⟨l, d, o, f⟩
        · have M := Aside.mk (mayD_ok l d o f most wr)
          rw [hm] at M
          have HN' : Aside (∀ j, j < i + 1 → ¬ IsPick most zs j) := ⟨fun j hj p => by
            rcases Nat.lt_or_ge j i with h | h
            · exact HN.it j h p
            · obtain rfl : j = i := by omega
              obtain ⟨z, e, m, _⟩ := p
              rw [HZ.it] at e; cases e
              rw [hm] at m; cases m⟩
          clear hm
          go_wp2_with (first | (go_at_call 20; refine M.it.mono ?_; rintro e w1 ⟨rfl, K1⟩) | fail)
          go_roundw
          case rel => exact ⟨i + 1, by omega, by go_num, HN', ⟨HB.it.trans K1.it⟩⟩
          case measure => simp [natOf21]; omega
        · have M := Aside.mk (mayD_ok l d o f most wr)
          rw [hm] at M
          have HM := Aside.mk hm
          clear hm
          go_upto_block 2 with (first | (go_at_call 20; refine M.it.mono ?_; rintro e w1 ⟨rfl, K1⟩) | fail)
          have KW := Aside.mk (HB.it.trans K1.it)
          clear HB K1 M r0 r1 r2 r3
          go_cut [7] (fun bv wx => ∃ bb : Bool, bv = .bool bb ∧ Aside (bb = true ↔ IsPick most zs i) ∧ Aside (Keeps Nowhere w wx))
          case first =>
            go_wp2_with fail
            go_loopw [7, 8] (fun bv kv wr => ∃ k : Nat, k ≤ n ∧ kv = .int .i64 k ∧ bv = .bool true ∧ Aside (∀ j y, j < k → zs[j]? = some y → y.may most = true → ¬ (y.opn < o ∨ y.opn = o ∧ j < i)) ∧ Aside (Keeps Nowhere w wr)) (fun _ kv _ => n - natOf21 kv)
            case atStart => exact ⟨0, Nat.zero_le _, rfl, rfl, ⟨fun _ _ h => (by omega)⟩, KW⟩
            case round =>
              clear KW
              obtain ⟨k, hk, rfl, rfl, HI, HB⟩ := hrel
              by_cases hkl : k < n
              · obtain ⟨l', d', o', f', b', s', hz', e', q0, q1, q2, q3, ho', hf'⟩ := (HV.it.quiet HB.it).read k (by rw [← hn.it]; exact hkl)
                obtain ⟨_, _, _, _, b2, s2, hz2, e2, p0, p1, p2, p3, _, _⟩ := (HV.it.quiet HB.it).read i (by rw [← hn.it]; exact hil)
                injection e' with e1
                injection e1 with e1 e1'
                subst e1 e1'
                injection e2 with e1
                injection e1 with e1 e1'
                subst e1 e1'
                rw [HZ.it] at hz2
                injection hz2 with hz2
                injection hz2 with g1 g2 g3 g4
                subst g1 g2 g3 g4
                have HZ' := Aside.mk hz'
                have j2 : (k : Int) < n := by omega
                have j3 : (0 : Int) ≤ k := by omega
                have c0 := fun n => KeW.cell q0 n
                have c1 := fun n => KeW.cell q1 n
                have c2 := fun n => KeW.cell q2 n
                have c3 := fun n => KeW.cell q3 n
                have c6 := fun n => KeW.cell p2 n
                have M := Aside.mk (KeW.call (w1 := wr) (fun W _ => mayD_ok l' d' o' f' most W))
                clear q0 q1 q2 q3 p0 p1 p2 p3 hz'
                haveI : Nonempty (KeW wr) := ⟨⟨wr, Keeps.refl _ _⟩⟩
                have NX : Aside ((LoadV.may most ⟨l', d', o', f'⟩ = true → ¬ (o' < o ∨ o' = o ∧ k < i)) → ∀ j y, j < k + 1 → zs[j]? = some y → y.may most = true → ¬ (y.opn < o ∨ y.opn = o ∧ j < i)) := ⟨fun h j y hj hy hm => by
                  rcases Nat.lt_or_ge j k with h1 | h1
                  · exact HI.it j y h1 hy hm
                  · obtain rfl : j = k := by omega
                    rw [HZ'.it] at hy; cases hy
                    exact h hm⟩
                have NP : Aside (LoadV.may most ⟨l', d', o', f'⟩ = true → (o' < o ∨ o' = o ∧ k < i) → (false = true ↔ IsPick most zs i)) := ⟨fun hm h => ⟨fun h => (by cases h), fun p => by
                  obtain ⟨z, e, m, hp⟩ := p
                  rw [HZ.it] at e; cases e
                  have := hp k _ HZ'.it hm
                  simp only at this
                  omega⟩⟩
                cases hm' : LoadV.may most ⟨l', d', o', f'⟩
                · rw [hm'] at M NX
                  clear NP hm'
                  go_upto_region 9 with fail
                  refine wp_region_quietF (KeW.W (w1 := wr)) (by kernel_rfl) (by kernel_rfl) ⟨wr.drew, (Keeps.refl _ _).drew⟩ rfl ?_
                  repeat (go_big_quiet_step (first | (go_at_call 20; exact M.it _)))
                  refine wpQuiet_nil ?_
                  rintro _ ⟨m, rfl⟩
                  have Q := Aside.mk (HB.it.trans m.ok)
                  generalize m.W = w11 at *
                  clear c0 c1 c2 c3 c6 M
                  go_wp2
                  go_roundw
                  case rel => exact ⟨k + 1, by omega, by go_num, rfl, ⟨NX.it (fun h => (by cases h))⟩, Q⟩
                  case measure => simp [natOf21]; omega
                · rw [hm'] at M NX NP
                  clear hm'
                  by_cases ha : o' < o
                  · clear NX
                    go_upto_region 9 with fail
                    refine wp_region_quietF (KeW.W (w1 := wr)) (by kernel_rfl) (by kernel_rfl) ⟨wr.drew, (Keeps.refl _ _).drew⟩ rfl ?_
                    repeat (go_big_quiet_step (first | (go_at_call 20; exact M.it _)))
                    refine wpQuiet_nil ?_
                    rintro _ ⟨m, rfl⟩
                    have Q := Aside.mk (HB.it.trans m.ok)
                    generalize m.W = w11 at *
                    clear c0 c1 c2 c3 c6 M
                    go_wp2
                    go_meet
                    case rel => exact ⟨false, rfl, ⟨NP.it trivial (.inl ha)⟩, Q⟩
                  · by_cases hb : o' = o
                    · by_cases hc : k < i
                      · clear NX
                        subst hb
                        have hci : (k : Int) < (i : Int) := by omega
                        go_upto_region 9 with fail
                        refine wp_region_quietF (KeW.W (w1 := wr)) (by kernel_rfl) (by kernel_rfl) ⟨wr.drew, (Keeps.refl _ _).drew⟩ rfl ?_
                        repeat (go_big_quiet_step (first | (go_at_call 20; exact M.it _)))
                        refine wpQuiet_nil ?_
                        rintro _ ⟨m, rfl⟩
                        have Q := Aside.mk (HB.it.trans m.ok)
                        generalize m.W = w11 at *
                        clear c0 c1 c2 c3 c6 M
                        go_wp2
                        go_meet
                        case rel => exact ⟨false, rfl, ⟨NP.it trivial (.inr ⟨trivial, hc⟩)⟩, Q⟩
                      · clear NP
                        subst hb
                        have hci : ¬ (k : Int) < (i : Int) := by omega
                        have HC := Aside.mk hc
                        clear hc
                        go_upto_region 9 with fail
                        refine wp_region_quietF (KeW.W (w1 := wr)) (by kernel_rfl) (by kernel_rfl) ⟨wr.drew, (Keeps.refl _ _).drew⟩ rfl ?_
                        repeat (go_big_quiet_step (first | (go_at_call 20; exact M.it _)))
                        refine wpQuiet_nil ?_
                        rintro _ ⟨m, rfl⟩
                        have Q := Aside.mk (HB.it.trans m.ok)
                        generalize m.W = w11 at *
                        clear c0 c1 c2 c3 c6 M
                        go_wp2
                        go_roundw
                        case rel => exact ⟨k + 1, by omega, by go_num, rfl, ⟨NX.it (fun _ h => by have := HC.it; omega)⟩, Q⟩
                        case measure => simp [natOf21]; omega
                    · clear NP
                      have HA := Aside.mk (And.intro ha hb)
                      have hb1 : (o' == o) = false := by simp [hb]
                      have hb2 : decide (o' = o) = false := by simp [hb]
                      go_upto_region 9 with fail
                      refine wp_region_quietF (KeW.W (w1 := wr)) (by kernel_rfl) (by kernel_rfl) ⟨wr.drew, (Keeps.refl _ _).drew⟩ rfl ?_
                      repeat (go_big_quiet_step (first | (go_at_call 20; exact M.it _)))
                      refine wpQuiet_nil ?_
                      rintro _ ⟨m, rfl⟩
                      have Q := Aside.mk (HB.it.trans m.ok)
                      generalize m.W = w11 at *
                      clear c0 c1 c2 c3 c6 M
                      go_wp2
                      go_roundw
                      case rel => exact ⟨k + 1, by omega, by go_num, rfl, ⟨NX.it (fun _ h => by have := HA.it; omega)⟩, Q⟩
                      case measure => simp [natOf21]; omega
              · obtain rfl : k = n := by omega
                go_wp2
                go_meet
                case rel =>
                  refine ⟨true, rfl, ⟨⟨fun _ => ⟨_, HZ.it, HM.it, fun j y hy hm => ?_⟩, fun _ => rfl⟩⟩, HB⟩
                  have := HI.it j y (by rw [hn.it]; exact (List.getElem?_eq_some_iff.1 hy).1) hy hm
                  simp only
                  omega
          case rest =>
            obtain ⟨bb, rfl, HP, HB⟩ := hcut
            cases bb
            · go_wp2
              go_roundw
              case rel => exact ⟨i + 1, by omega, by go_num, ⟨fun j hj p => by
                rcases Nat.lt_or_ge j i with h | h
                · exact HN.it j h p
                · obtain rfl : j = i := by omega
                  have := HP.it.2 p
                  cases this⟩, HB⟩
              case measure => simp [natOf21]; omega
            · go_wp2
              go_ret2
              exact ⟨_, _, rfl, ⟨.inl ⟨i, rfl, rfl, HP.it.1 trivial⟩⟩, HB⟩
      · obtain rfl : i = n := by omega
        go_wp2
        go_meet
        case rel =>
          refine ⟨⟨?_⟩, HB⟩
          rcases pick_or most zs with ⟨a, p⟩ | h
          · refine absurd p (HN.it a ?_)
            obtain ⟨z, e, _⟩ := id p
            rw [hn.it]
            exact (List.getElem?_eq_some_iff.1 e).1
          · exact h
  case rest =>
    obtain ⟨NM, HB⟩ := hcut
    obtain ⟨lvF, hlvF⟩ : ∃ p : LoadV → Bool, Aside (p = fun z => z.live) := ⟨_, ⟨rfl⟩⟩
    obtain ⟨opF, hopF⟩ : ∃ p : LoadV → Bool, Aside (p = fun z => z.live && !z.drain) := ⟨_, ⟨rfl⟩⟩
    obtain ⟨fwF, hfwF⟩ : ∃ p : LoadV → Bool, Aside (p = fun z => z.live && !z.drain && decide (z.opn < most)) := ⟨_, ⟨rfl⟩⟩
    go_upto_block 4 with fail
    go_cut [9, 10, 11] (fun av bv cv wx => ∃ a b c : Bool, av = .bool a ∧ bv = .bool b ∧ cv = .bool c ∧ Aside (a = zs.any lvF ∧ b = zs.any opF ∧ c = zs.any fwF) ∧ Aside (Keeps Nowhere w wx))
    case first =>
      go_wp2_with fail
      go_loopw [9, 10, 11, 12] (fun av bv cv iv wr => ∃ (a b c : Bool) (i : Nat), av = .bool a ∧ bv = .bool b ∧ cv = .bool c ∧ iv = .int .i64 i ∧ i ≤ n ∧ Aside (a = (zs.take i).any lvF ∧ b = (zs.take i).any opF ∧ c = (zs.take i).any fwF) ∧ Aside (Keeps Nowhere w wr)) (fun _ _ _ iv _ => n - natOf21 iv)
      case atStart => exact ⟨false, false, false, 0, rfl, rfl, rfl, rfl, Nat.zero_le _, ⟨by simp⟩, HB⟩
      case round =>
        clear HB
        obtain ⟨a, b, c, i, rfl, rfl, rfl, rfl, hi, HI, HB⟩ := hrel
        by_cases hil : i < n
        · obtain ⟨l, d, o, f, g, s, hz, rfl, r0, r1, r2, r3, ho, hf⟩ := (HV.it.quiet HB.it).read i (by rw [← hn.it]; exact hil)
          have NX : Aside ((a || l) = (zs.take (i + 1)).any lvF ∧ (b || (l && !d)) = (zs.take (i + 1)).any opF ∧ (c || (l && !d && decide (o < most))) = (zs.take (i + 1)).any fwF) := ⟨by
            rw [take_any _ hz, take_any _ hz, take_any _ hz, ← HI.it.1, ← HI.it.2.1, ← HI.it.2.2, hlvF.it, hopF.it, hfwF.it]
            exact ⟨rfl, rfl, rfl⟩⟩
          have i2 : (i : Int) < n := by omega
          have i3 : (0 : Int) ≤ i := by omega
          clear hz HI
          go_upto_region 18 with fail
          obtain ⟨W, hW⟩ : ∃ W, W = wr.alloc (.cells #[.bool l, .bool d, .int .i64 o, .int .i64 f] 23) := ⟨_, rfl⟩
          have K0 : Aside (Keeps Nowhere w W) := ⟨by rw [hW]; exact HB.it.alloc _⟩
          have B0 : Cells W wr.heap.size 23 [.bool l, .bool d, .int .i64 o, .int .i64 f] := by rw [hW]; exact Cells.new wr _ _
          have a0 : W.cell? ⟨wr.heap.size, 0, none⟩ = some (.bool l) := by rw [B0.cell]; rfl
          have a1 : W.cell? ⟨wr.heap.size, 1, none⟩ = some (.bool d) := by rw [B0.cell]; rfl
          have a2 : W.cell? ⟨wr.heap.size, 2, none⟩ = some (.int .i64 o) := by rw [B0.cell]; rfl
          rw [← hW]
          clear hW B0 r0 r1 r2 r3 HB
          generalize wr.heap.size = q0 at *
          go_cut [9] (fun v wx => v = .bool (a || l) ∧ wx = W)
          case first =>
            cases a
            · go_wp2
              go_meet
              case rel => exact ⟨by simp, rfl⟩
            · go_wp2
              go_meet
              case rel => exact ⟨by simp, rfl⟩
          case rest =>
            obtain ⟨rfl, rfl⟩ := hcut
            go_upto_region 19 with fail
            go_cut [10] (fun v wx => v = .bool (b || (l && !d)) ∧ wx = wc)
            case first =>
              cases b
              · cases l
                · go_wp2
                  go_meet
                  case rel => exact ⟨by simp, rfl⟩
                · go_wp2
                  go_meet
                  case rel => exact ⟨by simp, rfl⟩
              · go_wp2
                go_meet
                case rel => exact ⟨by simp, rfl⟩
            case rest =>
              obtain ⟨rfl, hw2⟩ := hcut
              subst hw2
              obtain ⟨x, hx⟩ : ∃ x, (a || l) = x := ⟨_, rfl⟩
              obtain ⟨y, hy⟩ : ∃ y, (b || (l && !d)) = y := ⟨_, rfl⟩
              rw [hx, hy] at NX ⊢
              clear hx hy
              cases c
              · cases l
                · have NX' : Aside (x = (zs.take (i + 1)).any lvF ∧ y = (zs.take (i + 1)).any opF ∧ false = (zs.take (i + 1)).any fwF) := ⟨by simpa using NX.it⟩
                  clear NX
                  go_wp2
                  go_roundw
                  case rel => exact ⟨_, _, _, i + 1, rfl, rfl, rfl, by go_num, by omega, NX', K0⟩
                  case measure => simp [natOf21]; omega
                · cases d
                  · have NX' : Aside (x = (zs.take (i + 1)).any lvF ∧ y = (zs.take (i + 1)).any opF ∧ decide (o < most) = (zs.take (i + 1)).any fwF) := ⟨by simpa using NX.it⟩
                    clear NX
                    go_wp2
                    go_roundw
                    case rel => exact ⟨_, _, _, i + 1, rfl, rfl, rfl, by go_num, by omega, NX', K0⟩
                    case measure => simp [natOf21]; omega
                  · have NX' : Aside (x = (zs.take (i + 1)).any lvF ∧ y = (zs.take (i + 1)).any opF ∧ false = (zs.take (i + 1)).any fwF) := ⟨by simpa using NX.it⟩
                    clear NX
                    go_wp2
                    go_roundw
                    case rel => exact ⟨_, _, _, i + 1, rfl, rfl, rfl, by go_num, by omega, NX', K0⟩
                    case measure => simp [natOf21]; omega
              · have NX' : Aside (x = (zs.take (i + 1)).any lvF ∧ y = (zs.take (i + 1)).any opF ∧ true = (zs.take (i + 1)).any fwF) := ⟨by simpa using NX.it⟩
                clear NX
                go_wp2
                go_roundw
                case rel => exact ⟨_, _, _, i + 1, rfl, rfl, rfl, by go_num, by omega, NX', K0⟩
                case measure => simp [natOf21]; omega
        · obtain rfl : i = n := by omega
          go_wp2
          go_meet
          case rel =>
            refine ⟨a, b, c, rfl, rfl, rfl, ⟨?_⟩, HB⟩
            have := HI.it
            rw [hn.it, List.take_length] at this
            exact this
    case rest =>
      clear HB
      obtain ⟨a, b, c, rfl, rfl, rfl, HI, HB⟩ := hcut
      have WH : Aside (whyN most zs = if a = false then 35 else if b = false then 36 else if c = false then 31 else 32) := ⟨by
        obtain ⟨h1, h2, h3⟩ := HI.it
        rw [h1, h2, h3, hlvF.it, hopF.it, hfwF.it]
        rfl⟩
      cases a
      · go_wp2
        go_ret2
        exact ⟨_, _, rfl, ⟨.inr ⟨rfl, by rw [WH.it]; rfl, NM.it⟩⟩, HB⟩
      cases b
      · go_wp2
        go_ret2
        exact ⟨_, _, rfl, ⟨.inr ⟨rfl, by rw [WH.it]; rfl, NM.it⟩⟩, HB⟩
      cases c
      · go_wp2
        go_ret2
        exact ⟨_, _, rfl, ⟨.inr ⟨rfl, by rw [WH.it]; rfl, NM.it⟩⟩, HB⟩
      · go_wp2
        go_ret2
        exact ⟨_, _, rfl, ⟨.inr ⟨rfl, by rw [WH.it]; rfl, NM.it⟩⟩, HB⟩
end Go.Proofs.YtnhgpnkomkiniaaDoor
