/-
  PlaceFair
-/
import Derived.Test.YtnhgpnkomkiniaaDoorPlU
namespace Go.Proofs.YtnhgpnkomkiniaaDoor
open Go.RowKit

variable {A : Nat → Addr} {w w' W w0 : World}

set_option maxRecDepth 20000 in
set_option maxHeartbeats 4000000 in
theorem placeFair_walk {A : Nat → Addr} (v : Value) (zs : List LoadV) (most streams : Int) (w : World) (hs : Sents 61 codeVars A w) (hz : LoadsArg w v zs) (hmw : (Lit.int .i64 most).wf = true) (_ : (Lit.int .i64 streams).wf = true) :
    Calls Tryd.prog 7 #[v, .int .i64 most, .int .i64 streams] w fun e w' => e = .returned (.bool true) ∧ Below w.heap.size w w' := by
  have HM := Aside.mk (wf_i64 hmw)
  clear hmw
  obtain ⟨hv0, hsz, hnil⟩ := hz
  have hv : LdsAt w v zs := hv0
  have F := Aside.mk (fixed21 hs)
  have HS := Aside.mk hs
  obtain ⟨pa, ca, rfl⟩ := hv.shape
  obtain ⟨n, hn⟩ : ∃ n, Aside (n = zs.length) := ⟨_, ⟨rfl⟩⟩
  rw [← hn.it] at hv hnil hsz ⊢
  obtain ⟨N, eN, eN2, hN⟩ : ∃ N : Nat, Aside ((if (200 : Int) < (n : Int) then (200 : Int) else (n : Int)) = (N : Int)) ∧ Aside (N ≤ n) ∧ N ≤ 200 := by
    by_cases h : 200 < n
    · exact ⟨200, ⟨by rw [if_pos (by omega)]; rfl⟩, ⟨by omega⟩, by omega⟩
    · exact ⟨n, ⟨by rw [if_neg (by omega)]⟩, ⟨Nat.le_refl _⟩, by omega⟩
  have hNn := eN2.it
  have hnca := hv.len.2.1
  have HV : Aside (LdsAt w (.slice pa N ca) (zs.take N)) := ⟨lds_take (ys := zs.drop N) (by rw [List.take_append_drop]; exact hv) (by rw [List.length_take, ← hn.it]; omega)⟩
  have HNL : Aside (∀ l c, Value.slice pa N ca = .slice none l c → c = 0) := ⟨fun l c e => by injection e with e1 e2 e3; exact hnil n c (by rw [e1, e3])⟩
  have HLN : Aside ((zs.take N).length = N) := ⟨by rw [List.length_take, ← hn.it]; omega⟩
  have hl : n ≤ 9223372036854775000 := by omega
  clear hv hv0 hsz hnil hs eN2
  generalize zs.take N = ys at HV HLN
  clear hn
  have HB := Aside.mk HV.it.bds
  have eN' := eN.it
  go_enter Tryd.func7, Tryd.ntmps7
  go_upto_region 3 with (first | (go_at_call 10; refine F.it.mono ?_; clear F; rintro e w1 ⟨rfl, K1⟩) | fail)
  obtain ⟨a4, c4, w4, hap, L4⟩ := copyL (HV.it.quiet K1.it) HNL.it HLN.it (by omega)
  go_upto_block 0 with (first
    | (at_builtin; refine wpList_appendK rfl (.tmp 20) (.tmp 25) 29 rfl _ _ (.slice a4 N c4) w4 rfl rfl hap.it ?_)
    | fail)
  have K04 := Aside.mk (K1.it.trans L4.it.k)
  have L4' : Aside (Lr w1 w4 (.slice a4 N c4) ys) := L4
  have V4 := Aside.mk (L4.it.lds HB.it)
  clear hap HV HNL L4 eN' eN hNn hnca
  go_cut [8, 9] (fun _ _ wx => Aside (Keeps Nowhere w4 wx))
  case first =>
    go_wp2_with fail
    go_loopw [29] (fun kv wr => ∃ k : Nat, k ≤ N ∧ kv = .int .i64 k ∧ Aside (Keeps Nowhere w4 wr)) (fun kv _ => N - natOf21 kv)
    case atStart => exact ⟨0, by omega, rfl, ⟨Keeps.refl _ _⟩⟩
    case round =>
      obtain ⟨k, hk, rfl, KR⟩ := hrel
      by_cases hkl : k < N
      · obtain ⟨l, d, o, f, b, s, hz, rfl, r0, r1, r2, r3, ho, hf⟩ := (V4.it.quiet KR.it).read k (by rw [HLN.it]; exact hkl)
        have i2 : (k : Int) < N := by omega
        have i3 : (0 : Int) ≤ k := by omega
        clear hz ho hf
        go_upto_region 7 with fail
        obtain ⟨W, hW⟩ : ∃ W, W = wr.alloc (.cells #[.bool l, .bool d, .int .i64 o, .int .i64 f] 23) := ⟨_, rfl⟩
        have KW : Aside (Keeps Nowhere w4 W) := ⟨by rw [hW]; exact KR.it.alloc _⟩
        have B0 : Aside (Cells W wr.heap.size 23 [.bool l, .bool d, .int .i64 o, .int .i64 f]) := ⟨by rw [hW]; exact Cells.new wr _ _⟩
        have a0 : W.cell? ⟨wr.heap.size, 0, none⟩ = some (.bool l) := by rw [B0.it.cell]; rfl
        have a1 : W.cell? ⟨wr.heap.size, 1, none⟩ = some (.bool d) := by rw [B0.it.cell]; rfl
        have a2 : W.cell? ⟨wr.heap.size, 2, none⟩ = some (.int .i64 o) := by rw [B0.it.cell]; rfl
        have a3 : W.cell? ⟨wr.heap.size, 3, none⟩ = some (.int .i64 f) := by rw [B0.it.cell]; rfl
        rw [← hW]
        clear hW r0 r1 r2 r3 KR
        generalize wr.heap.size = q at *
        have M := Aside.mk (may_ok l d o f most W)
        cases hm : LoadV.may most ⟨l, d, o, f⟩
        · rw [hm] at M
          clear hm
          go_wp2_with (first
            | (go_at_call 13; refine M.it.mono ?_; clear M; rintro e w7 ⟨rfl, K7⟩)
            | fail)
          go_ret
          exact ⟨rfl, ((K04.it.trans KW.it).trans K7.it).bel⟩
        · rw [hm] at M
          clear hm
          go_wp2_with (first
            | (go_at_call 13; refine M.it.mono ?_; clear M; rintro e w7 ⟨rfl, K7⟩)
            | fail)
          go_roundw
          case rel => exact ⟨k + 1, by omega, by go_num, ⟨KW.it.trans K7.it⟩⟩
          case measure => simp [natOf21]; omega
      · obtain rfl : k = N := by omega
        go_wp2
        go_meet
        case rel => exact KR
  case rest =>
    obtain ⟨w6, MK, X6⟩ := fx_begin (L4'.it.quiet hcut.it) HB.it HLN.it hN
    obtain ⟨gg, hgg⟩ : ∃ gg, Aside (gg = wc.heap.size) := ⟨_, ⟨rfl⟩⟩
    rw [← hgg.it] at X6 MK
    obtain ⟨M, eM, hM⟩ : ∃ M : Int, (if 500 < streams then (500 : Int) else streams) = M ∧ M ≤ 500 := ⟨_, rfl, by split <;> omega⟩
    clear V4 L4' hcut HB K04
    go_upto_block 2 with (first
      | (at_make; refine wpList_makeK rfl _ _ 38 rfl N rfl rfl w6 _ MK.it ?_)
      | fail)
    clear MK hgg
    have FA : Aside (Fair most ys (List.replicate N false)) := ⟨Fair.none⟩
    go_wp2_with fail
    go_loopw [11] (fun tv wr => ∃ (t : Nat) (xs : List LoadV) (gs : List Bool), tv = .int .i64 t ∧ t ≤ 500 ∧ Aside (Fair most xs gs) ∧ Aside (Fx w1 wr a4 N c4 xs gg gs)) (fun tv _ => 500 - natOf21 tv)
    case atStart => exact ⟨0, ys, _, rfl, by omega, FA, X6⟩
    case round =>
      clear X6 FA HLN
      obtain ⟨t, xs, gs, rfl, ht, FA, X⟩ := hrel
      by_cases htM : (t : Int) < M
      · obtain ⟨a5, c5, w5, hap5, L5⟩ := copyL X.it.lds X.it.nil X.it.n (by omega)
        have X5 := Aside.mk (X.it.quiet L5.it.k)
        have S5 := Aside.mk (HS.it.later (K1.it.trans X5.it.k).bel)
        have V5 := Aside.mk (L5.it.lds X.it.bd)
        rcases pick_or most xs with ⟨k, p⟩ | nm
        · have PK := Aside.mk (pick_ok (A := A) (w := w5) _ xs most k p V5.it S5.it)
          obtain ⟨z, ez, em, hp⟩ := id p
          have HP := Aside.mk p
          have EZ := Aside.mk ez
          have hkN : k < N := by rw [← X.it.n]; exact (List.getElem?_eq_some_iff.1 ez).1
          have EM := Aside.mk em
          have ztop := may_lt em
          have hmost := HM.it.2
          have i2 : (k : Int) < N := by omega
          have i3 : (0 : Int) ≤ k := by omega
          have zlow := (X.it.bd z (List.mem_of_getElem? ez)).1.1
          clear p hp ez em
          go_upto_region 25 with (first
            | (at_builtin; refine wpList_appendK rfl (.tmp 48) (.tmp 49) 29 rfl _ _ (.slice a5 N c5) w5 rfl rfl hap5.it ?_)
            | (go_at_call 8; refine PK.it.mono ?_; clear PK; rintro e w7 ⟨rfl, K7⟩)
            | fail)
          have X7 := Aside.mk (X5.it.quiet K7.it)
          clear X X5 S5 V5 L5 hap5 K7
          obtain ⟨o, hoz⟩ : ∃ o, Aside (z.opn = o) := ⟨_, ⟨rfl⟩⟩
          obtain ⟨g, rfl, s0, s1, X8⟩ := X7.it.put EZ.it EM.it hmost
          rw [hoz.it] at s0 ztop zlow
          have X8' := Aside.mk X8
          rw [hoz.it] at X8'
          clear X8 X7
          have o1 : o ≤ 9223372036854775806 := by omega
          go_upto_region 26 with fail
          obtain ⟨W8, hW8⟩ : ∃ W8, W8 = w7.setCell ⟨g, k * 4 + 2, none⟩ (.int .i64 (o + 1)) := ⟨_, rfl⟩
          rw [← hW8] at X8' ⊢
          clear hW8 s0 s1
          obtain ⟨⟨u0, t0⟩, t1, X9⟩ := X8'.it.mark hkN
          have X9' := Aside.mk X9
          clear X9 X8'
          go_upto_region 27 with fail
          obtain ⟨W9, hW9⟩ : ∃ W9, W9 = W8.setCell ⟨gg, k, none⟩ (.bool true) := ⟨_, rfl⟩
          rw [← hW9] at X9' ⊢
          clear hW9 t0 t1
          have FA9 := Aside.mk (FA.it.next EZ.it HP.it)
          clear FA HP EM EZ hoz ztop zlow o1
          generalize xs.set k z.more = xs' at *
          generalize gs.set k true = gs' at *
          clear i2 i3 hkN
          go_wp2_with fail
          go_loopw [88] (fun iv wr => ∃ i : Nat, iv = .int .i64 i ∧ i ≤ N ∧ Aside (Keeps Nowhere W9 wr)) (fun iv _ => N - natOf21 iv)
          case atStart => exact ⟨0, rfl, by omega, ⟨Keeps.refl _ _⟩⟩
          case round =>
            obtain ⟨i, rfl, hi, KR⟩ := hrel
            by_cases hil : i < N
            · have i2 : (i : Int) < N := by omega
              have i3 : (0 : Int) ≤ i := by omega
              go_wp2_with fail
              go_loopw [93] (fun jv wr => ∃ j : Nat, jv = .int .i64 j ∧ j ≤ N ∧ Aside (Keeps Nowhere W9 wr)) (fun jv _ => N - natOf21 jv)
              case atStart => exact ⟨0, rfl, by omega, KR⟩
              case round =>
                clear KR
                obtain ⟨j, rfl, hj, KR⟩ := hrel
                by_cases hjl : j < N
                · have j2 : (j : Int) < N := by omega
                  have j3 : (0 : Int) ≤ j := by omega
                  have XR := Aside.mk (X9'.it.quiet KR.it)
                  obtain ⟨bi, hbi, cg⟩ := XR.it.got hil
                  obtain ⟨l, d, x, f, b, s, hz, e1, r0, r1, r2, r3, ho, hf⟩ := XR.it.lds.read i (by rw [XR.it.n]; exact hil)
                  injection e1 with e1
                  injection e1 with e1 e2
                  subst e1 e2
                  obtain ⟨l', d', y, f', b', s', hz', e1, q0, q1, q2, q3, ho', hf'⟩ := XR.it.lds.read j (by rw [XR.it.n]; exact hjl)
                  injection e1 with e1
                  injection e1 with e1 e2
                  subst e1 e2
                  simp only [Nat.zero_add] at r0 r1 r2 r3 q0 q1 q2 q3
                  have c0 := fun n => KeW.cell q0 n
                  have c1 := fun n => KeW.cell q1 n
                  have c2 := fun n => KeW.cell q2 n
                  have c3 := fun n => KeW.cell q3 n
                  have c4 := fun n => KeW.cell r2 n
                  have c5 := fun n => KeW.cell cg n
                  have M := Aside.mk (KeW.call (w1 := wr) (fun W _ => may_ok l' d' y f' most W))
                  have FR : Aside (bi = true → LoadV.may most ⟨l', d', y, f'⟩ = true → x ≤ y + 1) := ⟨fun h1 h2 => FA9.it i j _ _ (by rw [hbi, h1]) hz hz' h2⟩
                  have FT : Aside (LoadV.may most ⟨l', d', y, f'⟩ = true → y < most) := ⟨fun h2 => may_lt h2⟩
                  clear r0 r1 r2 r3 q0 q1 q2 q3 cg hbi hz hz' XR
                  haveI : Nonempty (KeW wr) := ⟨⟨wr, Keeps.refl _ _⟩⟩
                  cases bi
                  · go_upto_region 33 with fail
                    refine wp_region_quietF (KeW.W (w1 := wr)) (by kernel_rfl) (by kernel_rfl) ⟨wr.drew, (Keeps.refl _ _).drew⟩ rfl ?_
                    repeat (go_big_quiet_step (fail))
                    refine wpQuiet_nil ?_
                    rintro _ ⟨m, rfl⟩
                    have Q := Aside.mk (KR.it.trans m.ok)
                    generalize m.W = w11 at *
                    clear c0 c1 c2 c3 c4 c5 M
                    go_wp2
                    go_roundw
                    case rel => exact ⟨j + 1, by go_num, by omega, Q⟩
                    case measure => simp [natOf21]; omega
                  · cases hm : LoadV.may most ⟨l', d', y, f'⟩
                    · rw [hm] at M
                      clear hm
                      go_upto_region 33 with fail
                      refine wp_region_quietF (KeW.W (w1 := wr)) (by kernel_rfl) (by kernel_rfl) ⟨wr.drew, (Keeps.refl _ _).drew⟩ rfl ?_
                      repeat (go_big_quiet_step (first | (go_at_call 13; exact M.it _)))
                      refine wpQuiet_nil ?_
                      rintro _ ⟨m, rfl⟩
                      have Q := Aside.mk (KR.it.trans m.ok)
                      generalize m.W = w11 at *
                      clear c0 c1 c2 c3 c4 c5 M
                      go_wp2
                      go_roundw
                      case rel => exact ⟨j + 1, by go_num, by omega, Q⟩
                      case measure => simp [natOf21]; omega
                    · have hxy := FR.it rfl hm
                      have hym := FT.it hm
                      have hy1 : y ≤ 9223372036854775806 := by omega
                      have hy0 := ho'.1
                      have e1 : IntKind.i64.wrap (y + 1) = y + 1 := by rw [IntKind.wrap_i64]; omega
                      have e2 : decide (x > y + 1) = false := by simp; omega
                      have e3 : decide (y + 1 < x) = false := by simp; omega
                      rw [hm] at M
                      clear hm hxy hym
                      go_upto_region 33 with fail
                      refine wp_region_quietF (KeW.W (w1 := wr)) (by kernel_rfl) (by kernel_rfl) ⟨wr.drew, (Keeps.refl _ _).drew⟩ rfl ?_
                      repeat (go_big_quiet_step (first | (go_at_call 13; exact M.it _)))
                      refine wpQuiet_nil ?_
                      rintro _ ⟨m, rfl⟩
                      have Q := Aside.mk (KR.it.trans m.ok)
                      generalize m.W = w11 at *
                      clear c0 c1 c2 c3 c4 c5 M
                      go_wp2
                      go_roundw
                      case rel => exact ⟨j + 1, by go_num, by omega, Q⟩
                      case measure => simp [natOf21]; omega
                · obtain rfl : j = N := by omega
                  go_wp2
                  go_roundw
                  case rel => exact ⟨i + 1, by go_num, by omega, KR⟩
                  case measure => simp [natOf21]; omega
            · obtain rfl : i = N := by omega
              go_wp2
              go_roundw
              case rel => exact ⟨t + 1, xs', gs', by go_num, by omega, FA9, ⟨X9'.it.quiet KR.it⟩⟩
              case measure => simp [natOf21]; omega
        · have PK := Aside.mk (pick_no (A := A) (w := w5) _ xs most nm V5.it S5.it)
          have HP := Aside.mk nm
          clear nm
          go_upto_region 16 with (first
            | (at_builtin; refine wpList_appendK rfl (.tmp 48) (.tmp 49) 29 rfl _ _ (.slice a5 N c5) w5 rfl rfl hap5.it ?_)
            | (go_at_call 8; refine PK.it.mono ?_; clear PK; rintro e w7 ⟨q7, rfl, C7, K7⟩)
            | fail)
          have X7 := Aside.mk (X5.it.quiet K7.it)
          clear X X5 S5 V5 L5 hap5 K7
          go_wp2_with fail
          go_loopw [59] (fun kv wr => ∃ k : Nat, k ≤ N ∧ kv = .int .i64 k ∧ Aside (Keeps Nowhere w7 wr)) (fun kv _ => N - natOf21 kv)
          case atStart => exact ⟨0, by omega, rfl, ⟨Keeps.refl _ _⟩⟩
          case round =>
            obtain ⟨k, hk, rfl, KR⟩ := hrel
            by_cases hkl : k < N
            · obtain ⟨l, d, o, f, b, s, hz, rfl, r0, r1, r2, r3, ho, hf⟩ := (X7.it.lds.quiet KR.it).read k (by rw [X7.it.n]; exact hkl)
              have hm := HP.it _ (List.mem_of_getElem? hz)
              have i2 : (k : Int) < N := by omega
              have i3 : (0 : Int) ≤ k := by omega
              clear hz ho hf
              go_upto_region 19 with fail
              obtain ⟨W, hW⟩ : ∃ W, W = wr.alloc (.cells #[.bool l, .bool d, .int .i64 o, .int .i64 f] 23) := ⟨_, rfl⟩
              have KW : Aside (Keeps Nowhere w7 W) := ⟨by rw [hW]; exact KR.it.alloc _⟩
              have B0 : Aside (Cells W wr.heap.size 23 [.bool l, .bool d, .int .i64 o, .int .i64 f]) := ⟨by rw [hW]; exact Cells.new wr _ _⟩
              have a0 : W.cell? ⟨wr.heap.size, 0, none⟩ = some (.bool l) := by rw [B0.it.cell]; rfl
              have a1 : W.cell? ⟨wr.heap.size, 1, none⟩ = some (.bool d) := by rw [B0.it.cell]; rfl
              have a2 : W.cell? ⟨wr.heap.size, 2, none⟩ = some (.int .i64 o) := by rw [B0.it.cell]; rfl
              have a3 : W.cell? ⟨wr.heap.size, 3, none⟩ = some (.int .i64 f) := by rw [B0.it.cell]; rfl
              rw [← hW]
              clear hW r0 r1 r2 r3 KR
              generalize wr.heap.size = q at *
              have M := Aside.mk (may_ok l d o f most W)
              rw [hm] at M
              clear hm
              go_wp2_with (first
                | (go_at_call 13; refine M.it.mono ?_; clear M; rintro e w8 ⟨rfl, K8⟩)
                | fail)
              go_roundw
              case rel => exact ⟨k + 1, by omega, by go_num, ⟨KW.it.trans K8.it⟩⟩
              case measure => simp [natOf21]; omega
            · obtain rfl : k = N := by omega
              go_wp2
              go_ret
              exact ⟨rfl, ((K1.it.trans X7.it.k).trans KR.it).bel⟩
      · go_wp2
        go_ret
        exact ⟨rfl, (K1.it.trans X.it.k).bel⟩
end Go.Proofs.YtnhgpnkomkiniaaDoor
