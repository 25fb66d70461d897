/-
  PlaceIdle
-/
import Derived.Test.YtnhgpnkomkiniaaDoorPlH
namespace Go.Proofs.YtnhgpnkomkiniaaDoor
open Go.RowKit

variable {A : Nat → Addr} {w w' W w0 : World}

theorem ats_next {ats : List Value} {i n : Nat} {P : Nat → Nat} {N : Nat} (hl : ats.length = n) (hi : i < n) (h : ∀ j, j < i → ats[j]? = some (.int .i64 (P j : Nat))) :
    ∀ j, j < i + 1 → (ats.set i (.int .i64 (N : Nat)))[j]? = some (.int .i64 ((if j = i then N else P j : Nat) : Int)) := by
  intro j hj
  by_cases e : j = i
  · subst e; rw [List.getElem?_set_self (by omega), if_pos rfl]
  · rw [List.getElem?_set_ne (fun x => e x.symm), if_neg e]; exact h j (by omega)
set_option maxRecDepth 20000 in
set_option maxHeartbeats 4000000 in
theorem placeIdle_walkU {A : Nat → Addr} (v : Value) (zs : List LoadV) (u : Value) (ys : List LoadV) (most : Int) (w : World) (hs : Sents 61 codeVars A w) (hz : LoadsArgU w v zs) (hy : LoadsArgU w u ys) :
    Calls Tryd.prog 6 #[v, u, .int .i64 most] w fun e w' => e = .returned (.bool true) ∧ Below w.heap.size w w' := by
  obtain ⟨⟨hv0, _, hnil⟩, hbz⟩ := hz
  obtain ⟨⟨hu0, _, _⟩, hby⟩ := hy
  have hv : LdsAt w v zs := hv0
  have hu : LdsAt w u ys := hu0
  have HB := Aside.mk hv.bds
  have F := Aside.mk (fixed21 hs)
  have HS := Aside.mk hs
  have HV := Aside.mk hv
  have HU := Aside.mk hu
  have HNL := Aside.mk hnil
  obtain ⟨pa, ca, rfl⟩ := hv.shape
  obtain ⟨pu, cu, rfl⟩ := hu.shape
  obtain ⟨n, hn⟩ : ∃ n, Aside (n = zs.length) := ⟨_, ⟨rfl⟩⟩
  obtain ⟨m, hm⟩ : ∃ m, Aside (m = ys.length) := ⟨_, ⟨rfl⟩⟩
  rw [← hn.it] at HV HNL hbz ⊢
  rw [← hm.it] at HU hby ⊢
  clear hv hv0 hu hu0 hnil hs
  obtain ⟨K, C, hP⟩ := pickR_ex most zs
  have HP := Aside.mk hP
  clear hP
  go_enter Tryd.func6, Tryd.ntmps6
  go_upto_region 3 with (first | (go_at_call 10; refine F.it.mono ?_; clear F; rintro e w1 ⟨rfl, K1⟩) | fail)
  obtain ⟨a4, c4, w4, hap, L4⟩ := copyL (HV.it.quiet K1.it) HNL.it hn.it.symm (by omega)
  have PK := Aside.mk (pick_is (A := A) (w := w4) HP.it (L4.it.lds HB.it) (HS.it.later (K1.it.trans L4.it.k).bel))
  go_upto_region 4 with (first
    | (at_builtin; refine wpList_appendK rfl (.tmp 18) (.tmp 19) 29 rfl _ _ (.slice a4 n c4) w4 rfl rfl hap.it ?_)
    | (go_at_call 8; refine PK.it.mono ?_; clear PK; rintro e w5 ⟨ev, rfl, CE, K5⟩)
    | fail)
  have K05 := Aside.mk ((K1.it.trans L4.it.k).trans K5.it)
  have V5 := Aside.mk (HV.it.quiet K05.it)
  have U5 := Aside.mk (HU.it.quiet K05.it)
  clear K1 L4 K5 hap HV HU HNL HB
  obtain ⟨w6, MK, X6⟩ := ix_begin n hbz w5
  obtain ⟨g, hg⟩ : ∃ g, Aside (g = w5.heap.size) := ⟨_, ⟨rfl⟩⟩
  rw [← hg.it] at X6 MK
  go_upto_block 0 with (first
    | (at_make; refine wpList_makeK rfl _ _ 36 rfl n rfl rfl w6 _ MK.it ?_)
    | fail)
  clear MK hg
  go_cut [9, 11, 12] (fun mv _ _ wx => ∃ (ms : List LoadV) (P : Nat → Nat) (a : Option Addr) (N c : Nat) (ats : List Value), mv = .slice a N c ∧ Aside (Idl most zs n ms P ∧ ats.length = n ∧ ∀ j, j < n → ats[j]? = some (.int .i64 (P j : Nat))) ∧ Aside (Ix w5 wx g ats (.slice a N c) ms))
  case first =>
    go_wp2_with fail
    go_loopw [9, 30] (fun mv kv wr => ∃ (i : Nat) (ms : List LoadV) (P : Nat → Nat) (a : Option Addr) (N c : Nat) (ats : List Value), kv = .int .i64 i ∧ i ≤ n ∧ mv = .slice a N c ∧ Aside (Idl most zs i ms P ∧ ms.length = N ∧ N ≤ 2 * i ∧ ats.length = n ∧ ∀ j, j < i → ats[j]? = some (.int .i64 (P j : Nat))) ∧ Aside (Ix w5 wr g ats (.slice a N c) ms)) (fun _ kv _ => n - natOf21 kv)
    case atStart => exact ⟨0, [], _, none, 0, 0, _, rfl, by omega, rfl, ⟨Idl.none, rfl, by omega, by simp, fun _ h => (by omega)⟩, X6⟩
    case round =>
      clear X6
      obtain ⟨i, ms, P, a, N, c, ats, rfl, hi, rfl, HI, X⟩ := hrel
      by_cases hil : i < n
      · obtain ⟨l, d, o, f, b, s, hz, rfl, r0, r1, r2, r3, ho, hf⟩ := (V5.it.quiet X.it.k).read i (by rw [← hn.it]; exact hil)
        have HZ := Aside.mk hz
        have HO := Aside.mk ho
        have HF := Aside.mk hf
        have i2 : (i : Int) < n := by omega
        have i3 : (0 : Int) ≤ i := by omega
        clear hz ho hf
        go_upto_region 9 with fail
        obtain ⟨W, hW⟩ : ∃ W, W = wr.alloc (.cells #[.bool l, .bool d, .int .i64 o, .int .i64 f] 23) := ⟨_, rfl⟩
        have Y : Aside (Ib w5 W g ats (.slice a N c) ms wr.heap.size ⟨l, d, o, f⟩) := ⟨by rw [hW]; exact X.it.box ⟨l, d, o, f⟩⟩
        rw [← hW]
        clear hW r0 r1 r2 r3 X
        generalize wr.heap.size = q at *
        go_cut [47] (fun cv wx => ∃ bb : Bool, cv = .bool bb ∧ Aside (Ib w5 wx g ats (.slice a N c) ms q ⟨l, d, o, f⟩) ∧ Aside (bb = true → i < m ∧ ∀ y, ys[i]? = some y → y.may most = false))
        case first =>
          by_cases him : i < m
          · obtain ⟨l', d', o', f', b', s', hz', rfl, q0, q1, q2, q3, ho', hf'⟩ := (U5.it.quiet Y.it.x.k).read i (by rw [← hm.it]; exact him)
            have M := Aside.mk (may_ok l' d' o' f' most W)
            have HZ' := Aside.mk hz'
            have HIM := Aside.mk him
            have j2 : (i : Int) < m := by omega
            clear ho' hf' hz'
            cases hmy : LoadV.may most ⟨l', d', o', f'⟩
            · rw [hmy] at M
              have HMY := Aside.mk hmy
              clear hmy
              go_wp2_with (first
                | (go_at_call 13; refine M.it.mono ?_; clear M; rintro e w7 ⟨rfl, K7⟩)
                | fail)
              go_meet
              case rel => exact ⟨true, rfl, ⟨Y.it.quiet K7.it⟩, ⟨fun _ => ⟨HIM.it, fun y e => by rw [HZ'.it] at e; cases e; exact HMY.it⟩⟩⟩
            · rw [hmy] at M
              clear hmy
              go_wp2_with (first
                | (go_at_call 13; refine M.it.mono ?_; clear M; rintro e w7 ⟨rfl, K7⟩)
                | fail)
              go_meet
              case rel => exact ⟨false, rfl, ⟨Y.it.quiet K7.it⟩, ⟨fun e => (by cases e)⟩⟩
          · have j2 : ¬ (i : Int) < m := by omega
            go_wp2
            go_meet
            case rel => exact ⟨false, rfl, Y, ⟨fun e => (by cases e)⟩⟩
        case rest =>
        clear Y
        obtain ⟨bb, rfl, Y, HBB⟩ := hcut
        go_upto_if 47 with fail
        go_cut [9] (fun mv wx => ∃ (ms : List LoadV) (a : Option Addr) (N c : Nat), mv = .slice a N c ∧ Aside (Idl most zs i ms P ∧ ms.length = N ∧ N ≤ 2 * i + 1) ∧ Aside (Ib w5 wx g ats (.slice a N c) ms q ⟨l, d, o, f⟩))
        case first =>
          cases bb
          · go_wp2
            go_meet
            case rel => exact ⟨ms, a, N, c, rfl, ⟨HI.it.1, HI.it.2.1, by have := HI.it.2.2.1; omega⟩, Y⟩
          · obtain ⟨him, hym⟩ := HBB.it rfl
            obtain ⟨l', d', o', f', b', s', hz', rfl, p0, p1, p2, p3, ho', hf'⟩ := (U5.it.quiet Y.it.x.k).read i (by rw [← hm.it]; exact him)
            have HMY := Aside.mk (hym _ hz')
            have j2 : (i : Int) < m := by omega
            obtain ⟨a8, c8, w8, hap8, Y8⟩ := Y.it.app ⟨l', d', o', f'⟩ ho' hf' (N := N + 1) (by rw [HI.it.2.1]) (by have := HI.it.2.2.1; omega)
            clear ho' hf' hz' hym
            go_wp2_with (first
              | (at_builtin; refine wpList_appendK rfl (.tmp 48) (.tmp 53) 29 rfl _ _ (.slice a8 (N + 1) c8) w8 rfl rfl hap8.it ?_)
              | fail)
            go_meet
            case rel => exact ⟨_, a8, N + 1, c8, rfl, ⟨HI.it.1.idle HMY.it, by rw [List.length_append, HI.it.2.1]; rfl, by have := HI.it.2.2.1; omega⟩, Y8⟩
        case rest =>
          have HA := Aside.mk (And.intro HI.it.2.2.2.1 HI.it.2.2.2.2)
          clear Y HI
          obtain ⟨ms', a', N', c', rfl, HI, Y⟩ := hcut
          obtain ⟨u0, hu0⟩ : ∃ u0, ats[i]? = some u0 := ⟨_, List.getElem?_eq_getElem (by rw [HA.it.1]; exact hil)⟩
          have s0 : wc.cell? ⟨g, i, none⟩ = some u0 := by rw [Y.it.x.a.cell]; exact hu0
          have s1 := Y.it.x.a.frozen i
          go_upto_region 12 with fail
          obtain ⟨W2, hW2⟩ : ∃ W2, W2 = wc.setCell ⟨g, i, none⟩ (.int .i64 (N' : Nat)) := ⟨_, rfl⟩
          have Y2 : Aside (Ib w5 W2 g (ats.set i (.int .i64 (N' : Nat))) (.slice a' N' c') ms' q ⟨l, d, o, f⟩) := ⟨by rw [hW2]; exact Y.it.set i _⟩
          rw [← hW2]
          clear hW2 s0 s1 Y hu0
          obtain ⟨t0, t1, t2, t3⟩ := Y2.it.cells
          have t4 := Y2.it.d.frozen 3
          go_upto_if 62 with fail
          go_cut [] (fun wx => Aside (Ib w5 wx g (ats.set i (.int .i64 (N' : Nat))) (.slice a' N' c') ms' q (adj ⟨l, d, o, f⟩ i)))
          case first =>
            by_cases h1 : 1 ≤ f
            · have E : Aside (adj ⟨l, d, o, f⟩ i = ⟨l, d, o, 1 + (i : Int)⟩) := ⟨by unfold adj; simp only [if_pos h1]⟩
              go_wp2
              go_meet
              case rel => rw [E.it]; exact ⟨Y2.it.left _⟩
            · have E : Aside (adj ⟨l, d, o, f⟩ i = ⟨l, d, o, f⟩) := ⟨by unfold adj; simp only [if_neg h1]⟩
              go_wp2
              go_meet
              case rel => rw [E.it]; exact Y2
          case rest =>
            clear Y2 t0 t1 t2 t3 t4
            obtain ⟨G, hG, hGb⟩ : ∃ G : Int, Aside (adj ⟨l, d, o, f⟩ i = ⟨l, d, o, G⟩) ∧ Aside (-9223372036854775808 ≤ G ∧ G ≤ 9223372036854775807) := ⟨_, ⟨rfl⟩, ⟨by
              have := HF.it
              by_cases h1 : 1 ≤ f
              · simp only [if_pos h1]; omega
              · simp only [if_neg h1]; exact this⟩⟩
            have Y3 := hcut
            rw [hG.it] at Y3
            clear hcut
            obtain ⟨t0, t1, t2, t3⟩ := Y3.it.cells
            obtain ⟨a9, c9, w9, hap9, Y9⟩ := Y3.it.app ⟨l, d, o, G⟩ HO.it hGb.it (N := N' + 1) (by rw [HI.it.2.1]) (by have := HI.it.2.2; omega)
            go_wp2_with (first
              | (at_builtin; refine wpList_appendK rfl (.tmp 66) (.tmp 68) 29 rfl _ _ (.slice a9 (N' + 1) c9) w9 rfl rfl hap9.it ?_)
              | fail)
            go_roundw
            case rel =>
              refine ⟨i + 1, ms' ++ [adj ⟨l, d, o, f⟩ i], (fun j => if j = i then ms'.length else P j), a9, N' + 1, c9, ats.set i (.int .i64 (N' : Nat)), by go_num, by omega, rfl, ⟨HI.it.1.own HZ.it, by rw [List.length_append, HI.it.2.1]; rfl, by have := HI.it.2.2; omega, by rw [List.length_set]; exact HA.it.1, ?_⟩, ⟨?_⟩⟩
              · rw [HI.it.2.1]; exact ats_next HA.it.1 hil HA.it.2
              · rw [hG.it]; exact Y9.it.x
            case measure => simp [natOf21]; omega
      · obtain rfl : i = n := by omega
        go_wp2
        go_meet
        case rel => exact ⟨ms, P, a, N, c, ats, rfl, ⟨HI.it.1, HI.it.2.2.2.1, HI.it.2.2.2.2⟩, X⟩
  case rest =>
    clear X6
    obtain ⟨ms, P, a, N, c, ats, rfl, HI, X⟩ := hcut
    have S9 := Aside.mk (HS.it.later (K05.it.trans X.it.k).bel)
    have HID : Aside (Idl most zs zs.length ms P) := ⟨by rw [← hn.it]; exact HI.it.1⟩
    rcases HP.it with ⟨k, rfl, rfl, p⟩ | ⟨rfl, rfl, nm⟩
    · have PK := Aside.mk (pick_ok (A := A) _ ms most (P k) (HID.it.pick p) X.it.lds S9.it)
      obtain rfl : ev = .nilIface := Coded.zero CE.out
      have hkn : k < n := by
        obtain ⟨z, e, _⟩ := p
        rw [hn.it]; exact (List.getElem?_eq_some_iff.1 e).1
      have hat := HI.it.2.2 k hkn
      have j2 : (k : Int) < n := by omega
      have j3 : (0 : Int) ≤ k := by omega
      obtain ⟨pk, hpk⟩ : ∃ pk, P k = pk := ⟨_, rfl⟩
      rw [hpk] at PK hat
      clear p CE HP hpk
      go_wp2_with (first
        | (go_at_call 8; refine PK.it.mono ?_; clear PK; rintro e w10 ⟨rfl, K10⟩; have s0 : w10.cell? ⟨g, k, none⟩ = some (.int .i64 (pk : Nat)) := by rw [(X.it.quiet K10.it).a.cell]; exact hat)
        | fail)
      go_ret
      exact ⟨rfl, ((K05.it.trans X.it.k).trans K10.it).bel⟩
    · have PK := Aside.mk (pick_no (A := A) _ ms most (HID.it.noneMay nm) X.it.lds S9.it)
      obtain ⟨qq, rfl⟩ := CE.out.pos whyN_pos
      clear nm CE HP
      go_wp2_with (first
        | (go_at_call 8; refine PK.it.mono ?_; clear PK; rintro e w10 ⟨q10, rfl, C10, K10⟩)
        | fail)
      go_ret
      exact ⟨rfl, ((K05.it.trans X.it.k).trans K10.it).bel⟩
end Go.Proofs.YtnhgpnkomkiniaaDoor
