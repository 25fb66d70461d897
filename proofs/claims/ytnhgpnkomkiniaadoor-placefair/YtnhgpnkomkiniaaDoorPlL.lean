/-
  PlaceLeast
-/
import Derived.Test.YtnhgpnkomkiniaaDoorPlF
namespace Go.Proofs.YtnhgpnkomkiniaaDoor
open Go.RowKit

variable {A : Nat → Addr} {w w' W : World}

theorem whyN_pos {most : Int} {zs : List LoadV} : whyN most zs ≠ 0 := by
  unfold whyN
  split
  · decide
  split
  · decide
  split <;> decide
set_option maxRecDepth 20000 in
set_option maxHeartbeats 4000000 in
theorem placeLeast_walk {A : Nat → Addr} (v : Value) (zs : List LoadV) (most : Int) (w : World) (hs : Sents 61 codeVars A w) (hz : LoadsArg w v zs) :
    Calls Tryd.prog 5 #[v, .int .i64 most] w fun e w' => e = .returned (.bool true) ∧ Below w.heap.size w w' := by
  obtain ⟨hv0, hsz, hnil⟩ := hz
  have hv : LdsAt w v zs := hv0
  have HB := Aside.mk hv.bds
  have F := Aside.mk (fixed21 hs)
  have HS := Aside.mk hs
  have HV := Aside.mk hv
  have HNL := Aside.mk hnil
  obtain ⟨pa, ca, rfl⟩ := hv.shape
  obtain ⟨n, hn⟩ : ∃ n, Aside (n = zs.length) := ⟨_, ⟨rfl⟩⟩
  rw [← hn.it] at hsz HV HNL ⊢
  have HSZ := Aside.mk hsz
  have hl : n ≤ 9223372036854775000 := by omega
  clear hv hv0 hsz hnil hs
  rcases pick_or most zs with ⟨a, p⟩ | nm
  · have HP := Aside.mk p
    obtain ⟨z, ez, em, hp⟩ := p
    have ha : a < n := by rw [hn.it]; exact (List.getElem?_eq_some_iff.1 ez).1
    have EZ := Aside.mk ez
    have EM := Aside.mk em
    have HPP := Aside.mk hp
    clear ez em hp
    go_enter Tryd.func5, Tryd.ntmps5
    go_upto_region 3 with (first | (go_at_call 10; refine F.it.mono ?_; clear F; rintro e w1 ⟨rfl, K1⟩) | fail)
    obtain ⟨a4, c4, w4, hap, L4⟩ := copyL (HV.it.quiet K1.it) HNL.it hn.it.symm (by have := HSZ.it; omega)
    have PK := Aside.mk (pick_ok (A := A) (w := w4) _ zs most a HP.it (L4.it.lds HB.it) (HS.it.later (K1.it.trans L4.it.k).bel))
    go_upto_region 4 with (first
      | (at_builtin; refine wpList_appendK rfl (.tmp 12) (.tmp 13) 29 rfl _ _ (.slice a4 n c4) w4 rfl rfl hap.it ?_)
      | (go_at_call 8; refine PK.it.mono ?_; clear PK; rintro e w5 ⟨rfl, K5⟩)
      | fail)
    have K05 := Aside.mk ((K1.it.trans L4.it.k).trans K5.it)
    have V5 := Aside.mk (HV.it.quiet K05.it)
    clear K1 L4 K5 hap HV
    obtain ⟨l, d, o, f, b, s, hz, rfl, r0, r1, r2, r3, ho, hf⟩ := V5.it.read a (by rw [← hn.it]; exact ha)
    rw [EZ.it] at hz
    injection hz with hz
    subst hz
    have M := Aside.mk (may_ok l d o f most w5)
    rw [EM.it] at M
    have i2 : (a : Int) < n := by omega
    have i3 : (0 : Int) ≤ a := by omega
    have i4 : ¬ (a : Int) < 0 := by omega
    have i5 : ¬ (n : Int) ≤ a := by omega
    go_upto_block 0 with (first
      | (go_at_call 13; refine M.it.mono ?_; clear M; rintro e w6 ⟨rfl, K6⟩)
      | fail)
    have K06 := Aside.mk (K05.it.trans K6.it)
    have V6 := Aside.mk (V5.it.quiet K6.it)
    clear K05 V5 r0 r1 r2 r3 K6
    go_cut [7, 8] (fun _ _ wx => Aside (Keeps Nowhere w6 wx))
    case first =>
      go_wp2_with fail
      go_loopw [42] (fun kv wr => ∃ k : Nat, k ≤ n ∧ kv = .int .i64 k ∧ Aside (Keeps Nowhere w6 wr)) (fun kv _ => n - natOf21 kv)
      case atStart => exact ⟨0, by omega, rfl, ⟨Keeps.refl _ _⟩⟩
      case round =>
        obtain ⟨k, hk, rfl, KR⟩ := hrel
        by_cases hkl : k < n
        · obtain ⟨l', d', o', f', b', s', hz', e', q0, q1, q2, q3, ho', hf'⟩ := (V6.it.quiet KR.it).read k (by rw [← hn.it]; exact hkl)
          injection e' with e1
          injection e1 with e1 e2
          subst e1 e2
          have j2 : (k : Int) < n := by omega
          have j3 : (0 : Int) ≤ k := by omega
          go_upto_region 9 with fail
          obtain ⟨W, hW⟩ : ∃ W, W = wr.alloc (.cells #[.bool l', .bool d', .int .i64 o', .int .i64 f'] 23) := ⟨_, rfl⟩
          have KW : Aside (Keeps Nowhere w6 W) := ⟨by rw [hW]; exact KR.it.alloc _⟩
          have B0 : Aside (Cells W wr.heap.size 23 [.bool l', .bool d', .int .i64 o', .int .i64 f']) := ⟨by rw [hW]; exact Cells.new wr _ _⟩
          have a0 : W.cell? ⟨wr.heap.size, 0, none⟩ = some (.bool l') := by rw [B0.it.cell]; rfl
          have a1 : W.cell? ⟨wr.heap.size, 1, none⟩ = some (.bool d') := by rw [B0.it.cell]; rfl
          have a2 : W.cell? ⟨wr.heap.size, 2, none⟩ = some (.int .i64 o') := by rw [B0.it.cell]; rfl
          have a3 : W.cell? ⟨wr.heap.size, 3, none⟩ = some (.int .i64 f') := by rw [B0.it.cell]; rfl
          rw [← hW]
          clear hW q0 q1 q2 q3 KR
          generalize wr.heap.size = q at *
          have M := Aside.mk (may_ok l' d' o' f' most W)
          have HZ' := Aside.mk hz'
          clear hz'
          cases hm : LoadV.may most ⟨l', d', o', f'⟩
          · rw [hm] at M
            clear hm
            go_wp2_with (first
              | (go_at_call 13; refine M.it.mono ?_; clear M; rintro e w7 ⟨rfl, K7⟩)
              | fail)
            go_roundw
            case rel => exact ⟨k + 1, by omega, by go_num, ⟨KW.it.trans K7.it⟩⟩
            case measure => simp [natOf21]; omega
          · rw [hm] at M
            have hq := HPP.it k _ HZ'.it hm
            simp only at hq
            clear hm
            have hlt : ¬ o' < o := by omega
            go_upto_region 10 with (first
              | (go_at_call 13; refine M.it.mono ?_; clear M; rintro e w7 ⟨rfl, K7⟩)
              | fail)
            have KW7 := Aside.mk (KW.it.trans K7.it)
            obtain ⟨_, _, _, _, b2, s2, hz2, e2, p0, p1, p2, p3, _, _⟩ := (V6.it.quiet KW7.it).read a (by rw [← hn.it]; exact ha)
            injection e2 with e1
            injection e1 with e1 e2
            subst e1 e2
            rw [EZ.it] at hz2
            injection hz2 with hz2
            injection hz2 with g1 g2 g3 g4
            subst g1 g2 g3 g4
            have o2 : w7.cell? ⟨q, 2, none⟩ = some (.int .i64 o') := by rw [(B0.it.later K7.it (fun x => x)).cell]; rfl
            have c0 := fun n => KeW.cell o2 n
            have c1 := fun n => KeW.cell p2 n
            clear o2 p0 p1 p2 p3 a0 a1 a2 a3
            haveI : Nonempty (KeW w7) := ⟨⟨w7, Keeps.refl _ _⟩⟩
            by_cases hoo : o' = o
            · subst hoo
              have hka : ¬ (k : Int) < (a : Int) := by omega
              refine wp_region_quietF (KeW.W (w1 := w7)) (by kernel_rfl) (by kernel_rfl) ⟨w7.drew, (Keeps.refl _ _).drew⟩ rfl ?_
              repeat (go_big_quiet_step (fail))
              refine wpQuiet_nil ?_
              rintro _ ⟨m, rfl⟩
              have Q := Aside.mk (KW7.it.trans m.ok)
              generalize m.W = w11 at *
              clear c0 c1
              go_wp2
              go_roundw
              case rel => exact ⟨k + 1, by omega, by go_num, Q⟩
              case measure => simp [natOf21]; omega
            · have hb1 : (o' == o) = false := by simp [hoo]
              have hb2 : decide (o' = o) = false := by simp [hoo]
              have hb3 : decide (o' < o) = false := by simp; omega
              clear hq
              refine wp_region_quietF (KeW.W (w1 := w7)) (by kernel_rfl) (by kernel_rfl) ⟨w7.drew, (Keeps.refl _ _).drew⟩ rfl ?_
              repeat (go_big_quiet_step (fail))
              refine wpQuiet_nil ?_
              rintro _ ⟨m, rfl⟩
              have Q := Aside.mk (KW7.it.trans m.ok)
              generalize m.W = w11 at *
              clear c0 c1
              go_wp2
              go_roundw
              case rel => exact ⟨k + 1, by omega, by go_num, Q⟩
              case measure => simp [natOf21]; omega
        · obtain rfl : k = n := by omega
          go_wp2
          go_meet
          case rel => exact KR
    case rest =>
      go_wp2
      go_ret
      exact ⟨rfl, (K06.it.trans hcut.it).bel⟩
  · have HP := Aside.mk nm
    clear nm
    go_enter Tryd.func5, Tryd.ntmps5
    go_upto_region 3 with (first | (go_at_call 10; refine F.it.mono ?_; clear F; rintro e w1 ⟨rfl, K1⟩) | fail)
    obtain ⟨a4, c4, w4, hap, L4⟩ := copyL (HV.it.quiet K1.it) HNL.it hn.it.symm (by have := HSZ.it; omega)
    have PK := Aside.mk (pick_no (A := A) (w := w4) _ zs most HP.it (L4.it.lds HB.it) (HS.it.later (K1.it.trans L4.it.k).bel))
    go_upto_region 4 with (first
      | (at_builtin; refine wpList_appendK rfl (.tmp 12) (.tmp 13) 29 rfl _ _ (.slice a4 n c4) w4 rfl rfl hap.it ?_)
      | (go_at_call 8; refine PK.it.mono ?_; clear PK; rintro e w5 ⟨q5, rfl, C5, K5⟩)
      | fail)
    have K05 := Aside.mk ((K1.it.trans L4.it.k).trans K5.it)
    have V5 := Aside.mk (HV.it.quiet K05.it)
    clear K1 L4 K5 hap HV
    go_upto_block 0 with fail
    go_cut [7, 8] (fun _ _ wx => Aside (Keeps Nowhere w5 wx))
    case first =>
      go_wp2_with fail
      go_loopw [42] (fun kv wr => ∃ k : Nat, k ≤ n ∧ kv = .int .i64 k ∧ Aside (Keeps Nowhere w5 wr)) (fun kv _ => n - natOf21 kv)
      case atStart => exact ⟨0, by omega, rfl, ⟨Keeps.refl _ _⟩⟩
      case round =>
        obtain ⟨k, hk, rfl, KR⟩ := hrel
        by_cases hkl : k < n
        · obtain ⟨l', d', o', f', b', s', hz', rfl, q0, q1, q2, q3, ho', hf'⟩ := (V5.it.quiet KR.it).read k (by rw [← hn.it]; exact hkl)
          have j2 : (k : Int) < n := by omega
          have j3 : (0 : Int) ≤ k := by omega
          have hm := HP.it _ (List.mem_of_getElem? hz')
          clear hz'
          go_upto_region 9 with fail
          obtain ⟨W, hW⟩ : ∃ W, W = wr.alloc (.cells #[.bool l', .bool d', .int .i64 o', .int .i64 f'] 23) := ⟨_, rfl⟩
          have KW : Aside (Keeps Nowhere w5 W) := ⟨by rw [hW]; exact KR.it.alloc _⟩
          have B0 : Aside (Cells W wr.heap.size 23 [.bool l', .bool d', .int .i64 o', .int .i64 f']) := ⟨by rw [hW]; exact Cells.new wr _ _⟩
          have a0 : W.cell? ⟨wr.heap.size, 0, none⟩ = some (.bool l') := by rw [B0.it.cell]; rfl
          have a1 : W.cell? ⟨wr.heap.size, 1, none⟩ = some (.bool d') := by rw [B0.it.cell]; rfl
          have a2 : W.cell? ⟨wr.heap.size, 2, none⟩ = some (.int .i64 o') := by rw [B0.it.cell]; rfl
          have a3 : W.cell? ⟨wr.heap.size, 3, none⟩ = some (.int .i64 f') := by rw [B0.it.cell]; rfl
          rw [← hW]
          clear hW q0 q1 q2 q3 KR
          generalize wr.heap.size = q at *
          have M := Aside.mk (may_ok l' d' o' f' most W)
          rw [hm] at M
          clear hm
          go_wp2_with (first
            | (go_at_call 13; refine M.it.mono ?_; clear M; rintro e w7 ⟨rfl, K7⟩)
            | fail)
          go_roundw
          case rel => exact ⟨k + 1, by omega, by go_num, ⟨KW.it.trans K7.it⟩⟩
          case measure => simp [natOf21]; omega
        · obtain rfl : k = n := by omega
          go_wp2
          go_meet
          case rel => exact KR
    case rest =>
      go_wp2
      go_ret
      exact ⟨rfl, (K05.it.trans hcut.it).bel⟩
end Go.Proofs.YtnhgpnkomkiniaaDoor
