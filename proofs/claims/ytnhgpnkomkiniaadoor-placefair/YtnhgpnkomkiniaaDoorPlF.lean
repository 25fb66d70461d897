/-
  PlacePicks
-/
import Derived.Test.YtnhgpnkomkiniaaDoorPlG
namespace Go.Proofs.YtnhgpnkomkiniaaDoor
open Go.RowKit

variable {A : Nat → Addr} {w w' W : World}

/-- loads that can be read, at an index -/
theorem Lr.shape {v : Value} {zs : List LoadV} {N : Nat} (h : Lr w W v zs) (hN : zs.length = N) (h0 : 0 < N) : ∃ g c, v = .slice (some ⟨g, 0, none⟩) N c ∧ N ≤ c := by
  rcases h.o.2 with ⟨_, e⟩ | ⟨g, cap, cur, e, _, _, hn, _⟩
  · omega
  · exact ⟨g, cap, by rw [e, hN], by omega⟩
theorem lds_take {a : Option Addr} {n N c : Nat} {zs ys : List LoadV} (h : LdsAt w (.slice a N c) (zs ++ ys)) (hn : zs.length = n) : LdsAt w (.slice a n c) zs := by
  obtain ⟨a', cap, e, h1, h2, h3⟩ := h
  injection e with e1 e2 e3
  subst e1 e3 hn
  rw [List.length_append] at h1
  refine ⟨_, _, rfl, by omega, h2, fun i z hz => h3 i z ?_⟩
  rw [List.getElem?_append_left (List.getElem?_eq_some_iff.1 hz).1]
  exact hz
set_option maxRecDepth 20000 in
set_option maxHeartbeats 4000000 in
theorem placePicks_walk {A : Nat → Addr} (v : Value) (zs : List LoadV) (most : Int) (w : World) (hs : Sents 61 codeVars A w) (hz : LoadsArg w v zs) :
    Calls Tryd.prog 4 #[v, .int .i64 most] w fun e w' => e = .returned (.bool true) ∧ Below w.heap.size w w' := by
  obtain ⟨hv0, hsz, hnil⟩ := hz
  have hv : LdsAt w v zs := hv0
  have HB := Aside.mk hv.bds
  have F := Aside.mk (fixed21 hs)
  have HS := Aside.mk hs
  have HV := Aside.mk hv
  have HNL := Aside.mk hnil
  obtain ⟨K, C, hP⟩ := pickR_ex most zs
  have HP := Aside.mk hP
  obtain ⟨pa, ca, rfl⟩ := hv.shape
  obtain ⟨n, hn⟩ : ∃ n, Aside (n = zs.length) := ⟨_, ⟨rfl⟩⟩
  rw [← hn.it] at hsz HV HNL ⊢
  have HSZ := Aside.mk hsz
  have hl : n ≤ 9223372036854775000 := by omega
  have hl2 : (n : Int) ≤ 9223372036854775805 := by omega
  clear hv hv0 hsz hnil hP hs
  go_enter Tryd.func4, Tryd.ntmps4
  go_upto_region 3 with (first | (go_at_call 10; refine F.it.mono ?_; clear F; rintro e w1 ⟨rfl, K1⟩) | fail)
  have RP := Aside.mk (refPick_is HP.it (HV.it.quiet K1.it))
  go_upto_region 4 with (first | (go_at_call 12; refine RP.it.mono ?_; clear RP; rintro e w2 ⟨rfl, K2⟩) | fail)
  have K02 := Aside.mk (K1.it.trans K2.it)
  clear K1 K2
  obtain ⟨a3, c3, w3, hmk, L3⟩ := makeLR w2 n HSZ.it
  obtain ⟨a4, c4, w4, hap, L4⟩ := appL L3.it ((HV.it.quiet (K02.it.trans L3.it.k)).reads HNL.it |> fun h => h) (N := n) (by simp [hn.it]) (by have := HSZ.it; omega)
  rw [List.nil_append] at L4
  clear L3
  go_upto_region 5 with (first
    | (go_at_call 9; refine (load_ok (-8) 8 w5).mono ?_; rintro e w6 ⟨rfl, K6⟩; obtain ⟨a7, c7, w7, hap7, L7⟩ := appL (xb := [ld (-7) 7, ld (-8) 8]) (N := n + 2) ((L4.it.quiet (K5.it.trans K6.it)).quiet ((Keeps.refl _ _).alloc (.cells #[.bool true, .bool false, .int .i64 (-7), .int .i64 7, .bool true, .bool false, .int .i64 (-8), .int .i64 8] 23))) (sv := .slice (some ⟨w6.heap.size, 0, none⟩) 2 2) (LdsAt.reads (lds_new w6 _ [ld (-7) 7, ld (-8) 8] rfl (fun z hz => by simp only [List.mem_cons, List.not_mem_nil, or_false] at hz; rcases hz with rfl | rfl <;> decide) 2 rfl (by decide)) (fun l c e => by cases e)) (by rw [hn.it]; rfl) (by have := HSZ.it; omega))
    | (go_at_call 9; refine (load_ok (-7) 7 w4).mono ?_; rintro e w5 ⟨rfl, K5⟩)
    | (at_builtin; refine wpList_appendK rfl (.tmp 26) (.tmp 29) 29 rfl _ _ (.slice a7 (n + 2) c7) w7 rfl rfl hap7.it ?_)
    | (at_builtin; refine wpList_appendK rfl (.tmp 24) (.tmp 25) 29 rfl _ _ (.slice a4 n c4) w4 rfl rfl hap.it ?_)
    | fail)
  have K07 := Aside.mk (K02.it.trans L7.it.k)
  have V7 := Aside.mk (HV.it.quiet K07.it)
  have S7 := Aside.mk (HS.it.later K07.it.bel)
  have B7 : Aside (Bds (zs ++ [ld (-7) 7, ld (-8) 8])) := ⟨fun z hz => by
    rcases List.mem_append.1 hz with h | h
    · exact HB.it z h
    · simp only [List.mem_cons, List.not_mem_nil, or_false] at h; rcases h with rfl | rfl <;> decide⟩
  have X7 := Aside.mk (L7.it.lds B7.it)
  obtain ⟨g, c, e, hc⟩ := L7.it.shape (N := n + 2) (by rw [List.length_append, hn.it]; rfl) (by omega)
  injection e with e1 e2 e3
  subst e1 e3
  have hnc : n ≤ c7 := by omega
  have T7 := Aside.mk (lds_take X7.it hn.it.symm)
  obtain ⟨n2, hn2⟩ : ∃ n2, Aside (n2 = n + 2) := ⟨_, ⟨rfl⟩⟩
  rw [← hn2.it] at X7 ⊢
  have hnc2 : n2 ≤ c7 := by have := hn2.it; omega
  have hn3 : n ≤ n2 := by have := hn2.it; omega
  clear L7 L4 hap hap7 hmk K5 K6 B7 hc HB HV HNL K02 e2
  go_upto_block 0 with fail
  go_cut [9] (fun _ wx => Aside (Keeps Nowhere w7 wx))
  case first =>
    go_wp2_with fail
    go_loopw [9] (fun kv wr => ∃ k : Nat, k ≤ 2 ∧ kv = .int .i64 k ∧ Aside (Keeps Nowhere w7 wr)) (fun kv _ => 2 - natOf21 kv)
    case atStart => exact ⟨0, by omega, rfl, ⟨Keeps.refl _ _⟩⟩
    case round =>
      obtain ⟨k, hk, rfl, KR⟩ := hrel
      by_cases hkl : k < 2
      · have PK := Aside.mk (pick_is (A := A) HP.it (T7.it.quiet KR.it) (S7.it.later KR.it.bel))
        have hk1 : (k : Int) < 2 := by omega
        go_wp2_with (first
          | (go_at_call 8; refine PK.it.mono ?_; clear PK; rintro e w8 ⟨ev, rfl, CE, K8⟩; have CD := Aside.mk (code_of (S7.it.later (KR.it.trans K8.it).bel) CE.out))
          | (go_at_call 11; refine CD.it.mono ?_; clear CD; rintro e w9 ⟨rfl, rfl⟩)
          | fail)
        go_roundw
        case rel => exact ⟨k + 1, by omega, by go_num, ⟨KR.it.trans K8.it⟩⟩
        case measure => simp [natOf21]; omega
      · obtain rfl : k = 2 := by omega
        go_wp2
        go_meet
        case rel => exact KR
  case rest =>
    go_upto_block 2 with fail
    go_cut [12] (fun _ wx => Aside (Keeps Nowhere w7 wx))
    case first =>
      go_wp2_with fail
      go_loopw [56] (fun kv wr => ∃ k : Nat, k ≤ n ∧ kv = .int .i64 k ∧ Aside (Keeps Nowhere w7 wr)) (fun kv _ => n - natOf21 kv)
      case atStart => exact ⟨0, by omega, rfl, hcut⟩
      case round =>
        clear hcut
        obtain ⟨k, hk, rfl, KR⟩ := hrel
        by_cases hkl : k < n
        · obtain ⟨l, d, o, f, b, s, hz, rfl, r0, r1, r2, r3, ho, hf⟩ := (V7.it.quiet KR.it).read k (by rw [← hn.it]; exact hkl)
          obtain ⟨l', d', o', f', b', s', hz', e', q0, q1, q2, q3, ho', hf'⟩ := (T7.it.quiet KR.it).read k (by rw [← hn.it]; exact hkl)
          injection e' with e1
          injection e1 with e1 e2
          subst e1 e2
          rw [hz] at hz'
          injection hz' with hz'
          injection hz' with g1 g2 g3 g4
          subst g1 g2 g3 g4
          simp only [Nat.zero_add] at q0 q1 q2 q3
          have c0 := fun n => KeW.cell r0 n
          have c1 := fun n => KeW.cell r1 n
          have c2 := fun n => KeW.cell r2 n
          have c3 := fun n => KeW.cell r3 n
          have d0 := fun n => KeW.cell q0 n
          have d1 := fun n => KeW.cell q1 n
          have d2 := fun n => KeW.cell q2 n
          have d3 := fun n => KeW.cell q3 n
          have NE := fun n : KeW wr => ld_neq l d o f n.W
          have i2 : (k : Int) < n := by omega
          have i3 : (0 : Int) ≤ k := by omega
          have i4 : (k : Int) < n2 := by omega
          clear r0 r1 r2 r3 q0 q1 q2 q3 hz
          haveI : Nonempty (KeW wr) := ⟨⟨wr, Keeps.refl _ _⟩⟩
          go_upto_region 15 with fail
          refine wp_region_quietF (KeW.W (w1 := wr)) (by kernel_rfl) (by kernel_rfl) ⟨wr.drew, (Keeps.refl _ _).drew⟩ rfl ?_
          repeat (go_big_quiet_step (fail))
          refine wpQuiet_nil ?_
          rintro _ ⟨m, rfl⟩
          have Q := Aside.mk (KR.it.trans m.ok)
          generalize m.W = w11 at *
          clear c0 c1 c2 c3 d0 d1 d2 d3 NE
          go_wp2
          go_roundw
          case rel => exact ⟨k + 1, by omega, by go_num, Q⟩
          case measure => simp [natOf21]; omega
        · obtain rfl : k = n := by omega
          go_wp2
          go_meet
          case rel => exact KR
    case rest =>
      have KR : Aside (Keeps Nowhere w7 wc) := hcut
      clear hcut
      obtain ⟨l, d, o, f, b, s, hz, e', q0, q1, q2, q3, ho, hf⟩ := (X7.it.quiet KR.it).read n (by rw [List.length_append, ← hn.it]; simp)
      obtain ⟨l2, d2, o2, f2, b2, s2, hz2, e2, p0, p1, p2, p3, ho2, hf2⟩ := (X7.it.quiet KR.it).read (n + 1) (by rw [List.length_append, ← hn.it]; simp)
      injection e' with e1
      injection e1 with e1 e1'
      subst e1 e1'
      injection e2 with e1
      injection e1 with e1 e1'
      subst e1 e1'
      rw [hn.it, List.getElem?_append_right (Nat.le_refl _), Nat.sub_self] at hz
      injection hz with hz
      injection hz with g1 g2 g3 g4
      subst g1 g2 g3 g4
      rw [hn.it, List.getElem?_append_right (by omega), Nat.add_sub_cancel_left] at hz2
      injection hz2 with hz2
      injection hz2 with g1 g2 g3 g4
      subst g1 g2 g3 g4
      simp only [Nat.zero_add] at q0 q1 q2 q3 p0 p1 p2 p3
      have c0 := fun n => KeW.cell q0 n
      have c1 := fun n => KeW.cell q1 n
      have c2 := fun n => KeW.cell q2 n
      have c3 := fun n => KeW.cell q3 n
      have d0 := fun n => KeW.cell p0 n
      have d1 := fun n => KeW.cell p1 n
      have d2 := fun n => KeW.cell p2 n
      have d3 := fun n => KeW.cell p3 n
      have E1 := fun n : KeW wc => ld_eql true false (-7) 7 n.W
      have E2 := fun n : KeW wc => ld_eql true false (-8) 8 n.W
      have LD : Aside (∀ (o f : Int) (s : KeW wc), Calls Tryd.prog 9 #[.int .i64 o, .int .i64 f] s.W fun e w' => e = .returned (.agg #[.bool true, .bool false, .int .i64 o, .int .i64 f]) ∧ ∃ m : KeW wc, w' = m.W) := ⟨fun o f s => KeW.call (fun W _ => load_ok o f W) s⟩
      have i2 : (n : Int) < n2 := by have := hn2.it; omega
      have i3 : (0 : Int) ≤ n := by omega
      have i4 : (n : Int) + 1 < n2 := by have := hn2.it; omega
      have i5 : ((n : Int) + 1).toNat = n + 1 := by omega
      have i6 : n + 1 < n2 := by have := hn2.it; omega
      have i7 : ¬ n2 ≤ n + 1 := by omega
      have i8 : IntKind.i64.wrap ((n : Int) + 1) = (n : Int) + 1 := by rw [IntKind.wrap_i64]; omega
      have i9 : ((0 : Int) ≤ (n : Int) + 1 ∧ (n : Int) + 1 < (n2 : Int)) = True := by simp only [eq_iff_iff, iff_true]; omega
      clear q0 q1 q2 q3 p0 p1 p2 p3 X7 V7 T7 HSZ
      haveI : Nonempty (KeW wc) := ⟨⟨wc, Keeps.refl _ _⟩⟩
      go_upto_region 18 with fail
      refine wp_region_quietF (KeW.W (w1 := wc)) (by kernel_rfl) (by kernel_rfl) ⟨wc.drew, (Keeps.refl _ _).drew⟩ rfl ?_
      repeat (go_big_quiet_step (first | (go_at_call 9; exact LD.it _ _ _)))
      refine wpQuiet_nil ?_
      rintro _ ⟨m, rfl⟩
      have Q := Aside.mk (KR.it.trans m.ok)
      generalize m.W = w11 at *
      clear c0 c1 c2 c3 d0 d1 d2 d3 E1 E2 LD
      go_wp2
      go_ret
      exact ⟨rfl, (K07.it.trans Q.it).bel⟩
end Go.Proofs.YtnhgpnkomkiniaaDoor
