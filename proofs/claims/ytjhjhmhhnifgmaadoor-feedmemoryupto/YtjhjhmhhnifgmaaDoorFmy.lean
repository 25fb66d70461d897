import Derived.Test.YtjhjhmhhnifgmaaDoorFmx
import Derived.Deep.DeepCutAuto
import Derived.Deep.RegionHeld3
/-
  culvertlaw05.FeedMemory
-/
namespace Go.Proofs.YtjhjhmhhnifgmaaDoor
open Go.RowKit
attribute [-go_sem] Builtin.append_

theorem flat_mem {fs : List (List Int × List Int)} {x : List Int × List Int} (h : x ∈ fs) : x.2.length ≤ (flat fs).length := by
  induction fs with
  | nil => cases h
  | cons y ys ih =>
    have e : (flat (y :: ys)).length = (y.1 ++ y.2).length + (flat ys).length := by
      rw [show y :: ys = [y] ++ ys from rfl, flat_append, List.length_append]
      simp [flat]
    rw [e, List.length_append]
    rcases List.mem_cons.1 h with rfl | h
    · omega
    · have := ih h
      omega
theorem step_len (most : Int) (F B : List Int) : ∀ x ∈ (stepO most F B).fs, x.2.length ≤ (prs most F).rest.length + B.length := by
  unfold stepO feedO
  cases hd : (prs most F).dead with
  | some h => intro x hx; simp at hx
  | none =>
    intro x hx
    have hx' : x ∈ (parse (ckH most) szN ((prs most F).rest ++ B)).fs := hx
    have h1 := flat_mem hx'
    have h2 : (flat (parse (ckH most) szN ((prs most F).rest ++ B)).fs).length ≤ ((prs most F).rest ++ B).length := by
      cases hd2 : (parse (ckH most) szN ((prs most F).rest ++ B)).dead with
      | none =>
        have := congrArg List.length (parse_rest _ hd2).2
        simp only [List.length_append] at this ⊢
        omega
      | some h =>
        obtain ⟨_, _, _, t, e⟩ := parse_died _ h hd2
        have := congrArg List.length e
        simp only [List.length_append] at this ⊢
        omega
    rw [List.length_append] at h2
    omega
theorem step_count (most : Int) (F B : List Int) : (stepO most F B).fs.length ≤ (prs most F).rest.length + B.length := by
  unfold stepO feedO
  cases hd : (prs most F).dead with
  | some h => simp
  | none =>
    have h3 := parse_count (ck := ckH most) (sz := szN) ((prs most F).rest ++ B)
    rw [List.length_append] at h3
    show (prs most ((prs most F).rest ++ B)).fs.length ≤ _
    unfold prs at h3 ⊢
    omega
/-- the sizes -/
structure Bm (k : Nat) (XS : List FX) (vs : List Value) : Prop where
  n : XS.length ≤ k * 1048576
  x : ∀ x ∈ XS, x.1.2.length ≤ 1048576
  v : vs.length = k

set_option maxRecDepth 20000 in
set_option maxHeartbeats 40000000 in
theorem feedMemory_good {A : Nat → Addr} (most : Int) (s : Value) (zs : List PcV) (w : World) (B0 : Base A w) (hz : PiecesArg w s zs) (hm1 : 1 ≤ most) (hm2 : most ≤ 65536) :
    Calls Tryd.prog 3 #[.int .i64 most, s] w fun e w' => e = .returned (.bool true) ∧ Below w.heap.size w w' := by
  obtain ⟨hz20, hsum, hz⟩ := hz
  have HZ := Aside.mk hz
  obtain ⟨a, c, rfl, hzc, hcm, _⟩ := hz
  obtain ⟨N, hN⟩ : ∃ N, zs.length = N := ⟨_, rfl⟩
  have HN := Aside.mk hN
  have HSUM := Aside.mk hsum
  rw [hN] at hzc hz20 ⊢
  have FX := Aside.mk (fixed5 B0)
  have HB0 := Aside.mk B0
  have HM := Aside.mk (show most ≠ 0 by omega)
  have hNm : (N : Int) ≤ 1048576 := by omega
  have HM12 := Aside.mk (And.intro hm1 hm2)
  clear hN hsum B0
  go_enter Tryd.func3, Tryd.ntmps3
  go_upto_region 3 with (go_at_call 4; refine FX.it.mono ?_; clear FX; rintro e w1 ⟨rfl, hb1⟩)
  have K1 : Aside (Keeps Nowhere w w1) := ⟨Keeps.ofBelow hb1⟩
  clear hb1
  have G1 := Aside.mk ((Gr.start HB0.it).quiet K1.it)
  have NW := Aside.mk (new_s (i := 1) (j := 2) G1.it HM12.it.1 HM12.it.2)
  go_upto_region 4 with (first | (go_at_call 5; refine NW.it.mono ?_; clear NW; rintro e w2 ⟨p, own2, rfl, X2⟩) | fail)
  have RN := Aside.mk (refNew_ok (w := w2) HM12.it.1 HM12.it.2)
  go_upto_region 5 with (first | (go_at_call 6; refine RN.it.mono ?_; clear RN; rintro e w3 ⟨rfl, B3⟩) | fail)
  obtain ⟨mb, hmb⟩ : ∃ mb, w3.heap.size = mb := ⟨_, rfl⟩
  have Q4 : Aside (Fq A w (give (give own2 w2.heap.size 5) w3.heap.size 6) (w3.alloc (.cells #[.int .i64 most, .slice none 0 0] 31)) p most [] (.slice none 0 0) mb (.slice none 0 0)) := ⟨by
    have s1 : Sn (fun _ => False) own2 w2 (give own2 w2.heap.size 5) w3 := Sn.quiet (Keeps.ofBelow B3.it) 5
    have s2 : Sn (fun _ => False) (give own2 w2.heap.size 5) w3 (give (give own2 w2.heap.size 5) w3.heap.size 6) (w3.alloc (.cells #[.int .i64 most, .slice none 0 0] 31)) := Sn.quiet ((Keeps.refl _ _).alloc _) 6
    have L2 : Lw A w own2 1 2 p most (prs most []).rest (prs most []).dead w2 := by
      rw [show prs most [] = ⟨[], [], none⟩ from parse_short (by decide)]
      exact ⟨X2.it.1, X2.it.2.1⟩
    exact ⟨(L2.sn s1 (fun x => x) (fun x => x) (fun x => x)).sn s2 (fun x => x) (fun x => x) (fun x => x), ⟨⟨⟨none, 0, rfl, Nat.le_refl _, fun j u hj => by simp [bv] at hj⟩, fun l c e => by injection e with _ _ e; exact e.symm⟩, fun h => by simp at h⟩, ⟨by rw [← hmb]; exact Cells.new w3 _ _, give_new (by rw [← hmb]; exact Nat.le_refl _)⟩⟩⟩
  generalize (give (give own2 w2.heap.size 5) w3.heap.size 6) = own4 at Q4
  generalize (w3.alloc (.cells #[.int .i64 most, .slice none 0 0] 31)) = W4 at Q4 ⊢
  clear X2 B3
  have P4 : Aside (Fq A w own4 W4 p most [] (.slice none 0 0) mb (.slice none 0 0) ∧ Ex own4 W4 (.slice none 0 0) [] (.slice none 0 0) [] (.slice none 0 0) []) := ⟨Q4.it, Ex.nil _ _⟩
  clear Q4
  rw [hmb]
  clear hmb
  go_upto_region 11 with fail
  go_loopw [9, 10, 11, 62] (fun kv kw lv iv wr => ∃ (k : Nat) (F : List Int) (fq : Option Addr) (fl fc : Nat) (own : Nat → Nat) (ka : Option Addr) (X kc : Nat) (XS : List FX) (wa : Option Addr) (Y wc : Nat) (YS : List FX) (la : Option Addr) (lc : Nat) (vs : List Value), kv = .slice ka X kc ∧ kw = .slice wa Y wc ∧ lv = .slice la k lc ∧ iv = .int .i64 k ∧ k ≤ N ∧ Aside (F.length ≤ ((zs.take k).map (fun z => z.ns.length)).sum ∧ AreBytes F) ∧ Aside (Bm k XS vs ∧ XS.length = X ∧ YS.length = Y) ∧ Aside (Fq A w own wr p most F (.slice fq fl fc) mb (.slice fq fl fc) ∧ Ex own wr (.slice ka X kc) XS (.slice wa Y wc) YS (.slice la k lc) vs)) (fun _ _ _ iv _ => N - natOf iv)
  case atStart => exact ⟨0, [], _, _, _, own4, none, 0, 0, [], none, 0, 0, [], none, 0, [], rfl, rfl, rfl, rfl, Nat.zero_le _, ⟨by simp, fun n hn => by cases hn⟩, ⟨⟨Nat.zero_le _, fun x hx => (by cases hx), rfl⟩, rfl, rfl⟩, P4⟩
  case round =>
    clear P4
    obtain ⟨k, F, fq, fl, fc, own, ka, X, kc, XS, wa, Y, wc0, YS, la, lc, vs, rfl, rfl, rfl, rfl, hk, hF, BM, P⟩ := hrel
    rcases Nat.eq_or_lt_of_le hk with heq | hlt
    · have hkN : ¬ (k : Int) < N := by omega
      have hkB : (k : Int) ≤ 1048576 := by omega
      clear heq
      obtain ⟨ln, hln, E0⟩ := Fe.begin P.it.1 P.it.2
      obtain ⟨f, hf⟩ : ∃ f : Nat → List Int, (fun t => ((XS[t]?.map (fun x => x.1.2)).getD [])) = f := ⟨_, rfl⟩
      rw [hf] at E0
      have HFL : Aside (∀ t, (f t).length ≤ 1048576) := ⟨fun t => by
        rw [← hf]
        simp only
        cases hx : XS[t]? with
        | none => simp
        | some x => simp only [Option.map_some, Option.getD_some]; exact BM.it.1.x x (List.mem_of_getElem? hx)⟩
      have hXb : (X : Int) ≤ 1099511627776 := by have h1 := BM.it.1.n; have h2 := BM.it.2.1; have h3 : k * 1048576 ≤ 1048576 * 1048576 := Nat.mul_le_mul_right _ (by omega); omega
      obtain ⟨ps, hps⟩ : ∃ ps, XS.map (fun x => x.2) = ps := ⟨_, rfl⟩
      rw [hps] at E0
      have HPS : Aside (ps.length = X) := ⟨by rw [← hps, List.length_map]; exact BM.it.2.1⟩
      have HV : Aside (vs.length = k) := ⟨BM.it.1.v⟩
      have HLN := Aside.mk hln
      have HFB : Aside (F.length ≤ 16777216 ∧ AreBytes F) := ⟨by have h1 := hF.it; have h2 := sum_take_le zs k; have h3 := HSUM.it; exact ⟨by omega, h1.2⟩⟩
      generalize relF own XS vs = own1 at E0
      have E1 : Aside (Fe A w own1 wr p most F (.slice fq fl fc) mb (.slice ka X kc) ps (fP f 0 0) (fun t => (f t).length) (.slice none 0 0) [] (.slice la k lc) vs ln (mA ln 0 0)) := ⟨((E0.lens (fun t => (f t).length)).more (fun t _ => (fP_start f t).symm)).eqL (fun j => by unfold mA; simp)⟩
      clear hln E0 hf hps P BM hF HZ HN HSUM HB0 HM12
      as_aux_lemma =>
        go_upto_region 32 with fail
        go_loopw [154] (fun iv wr => ∃ (q : Nat) (own : Nat → Nat), iv = .int .i64 q ∧ q ≤ k ∧ Aside (Fe A w own wr p most F (.slice fq fl fc) mb (.slice ka X kc) ps (fP f 0 0) (fun t => (f t).length) (.slice none 0 0) [] (.slice la k lc) vs ln (mA ln q 0))) (fun iv _ => k - natOf iv)
        case atStart => exact ⟨0, own1, rfl, Nat.zero_le _, E1⟩
        case round =>
          clear E1
          obtain ⟨q, own2, rfl, hq, P⟩ := hrel
          by_cases hqk : q < k
          · have hqk' : (q : Int) < k := by omega
            obtain ⟨v, hv⟩ : ∃ v, vs[q]? = some v := ⟨_, List.getElem?_eq_getElem (by rw [HV.it]; exact hqk)⟩
            obtain ⟨va, vc, ev⟩ := HLN.it q v hv
            obtain ⟨lb, lc', el, hlc, cv⟩ := rowV_cell P.it.l hv
            rw [HV.it] at el hlc
            injection el with el1 el2 el3
            subst el1 el3
            have hmx := (P.it.ls q v hv).max
            obtain ⟨n, hn⟩ : ∃ n, ln q = n := ⟨_, rfl⟩
            have HLq := Aside.mk hn
            rw [hn] at ev hmx
            subst ev
            have HVQ := Aside.mk hv
            have hmx' : (n : Int) ≤ 9223372036854775807 := by omega
            have hu1 : IntKind.u32.wrap (q : Int) = (q : Int) := by rw [IntKind.wrap_u32]; omega
            have hu2 : (q : Int) % 4294967296 = (q : Int) := by omega
            clear hv hn el2 hmx
            go_upto_region 35 with fail
            clear cv
            go_loopw [161] (fun iv wr => ∃ (i : Nat) (own : Nat → Nat), iv = .int .i64 i ∧ i ≤ n ∧ Aside (Fe A w own wr p most F (.slice fq fl fc) mb (.slice ka X kc) ps (fP f 0 0) (fun t => (f t).length) (.slice none 0 0) [] (.slice (some ⟨lb, 0, none⟩) k lc) vs ln (mA ln q i))) (fun iv _ => n - natOf iv)
            case atStart => exact ⟨0, own2, rfl, Nat.zero_le _, P⟩
            case round =>
              clear P
              obtain ⟨i, own3, rfl, hi, P⟩ := hrel
              by_cases hin : i < n
              · have hin' : (i : Int) < n := by omega
                have i0 : (i : Int) ≤ 9223372036854775806 := by omega
                have L1 := P.it.ls q _ HVQ.it
                rw [mA_at, HLq.it] at L1
                obtain ⟨b', c', v0, ee, fz, ce, L2, S2⟩ := L1.put hin
                injection ee with ee1 ee2 ee3
                subst ee1 ee3
                have P2 := Aside.mk ((P.it.lput S2 HVQ.it (by rw [HLq.it]; exact L2)).eqL (fun j => mA_step ln q i j))
                clear ee2 L1 L2 S2 P
                go_wp2_with fail
                go_roundw
                case rel => exact ⟨i + 1, own3, by go_num, by omega, P2⟩
                case measure => simp [natOf]; omega
              · have hin' : ¬ (i : Int) < n := by omega
                have P2 := Aside.mk (P.it.eqL (g := mA ln (q + 1) 0) (fun j => by rw [show i = ln q by rw [HLq.it]; omega]; exact mA_all ln q j))
                clear P
                go_wp2_with fail
                go_roundw
                case rel => exact ⟨q + 1, own3, by go_num, by omega, P2⟩
                case measure => simp [natOf]; omega
          · have hqk' : ¬ (q : Int) < k := by omega
            obtain ⟨MM, hMM⟩ : ∃ MM, mA ln q 0 = MM := ⟨_, rfl⟩
            have HMM : Aside (∀ j, j < k → MM j = ln j) := ⟨fun j hj => by rw [← hMM]; unfold mA; rw [if_pos (by omega)]⟩
            rw [hMM] at P
            clear hMM
            go_upto_region 41 with fail
            go_loopw [175] (fun iv wr => ∃ (t : Nat) (own : Nat → Nat), iv = .int .i64 t ∧ t ≤ X ∧ Aside (Fe A w own wr p most F (.slice fq fl fc) mb (.slice ka X kc) ps (fP f t 0) (fun t => (f t).length) (.slice none 0 0) [] (.slice la k lc) vs ln MM)) (fun iv _ => X - natOf iv)
            case atStart => exact ⟨0, own2, rfl, Nat.zero_le _, P⟩
            case round =>
              clear P
              obtain ⟨t, own3, rfl, ht, P⟩ := hrel
              by_cases htX : t < X
              · have htX' : (t : Int) < X := by omega
                have t0 : (t : Int) ≤ 1099511627776 := by omega
                obtain ⟨v, hv⟩ : ∃ v, ps[t]? = some v := ⟨_, List.getElem?_eq_getElem (by rw [HPS.it]; exact htX)⟩
                obtain ⟨kb, kc', el, hkc, cv⟩ := P.it.k.cell hv
                rw [HPS.it] at el hkc
                injection el with el1 el2 el3
                subst el1 el3
                obtain ⟨va, vc, ev, hvc⟩ := (P.it.x t v hv).shape
                have nl : (fP f t 0 t).length = (f t).length := fP_len f (Nat.zero_le _)
                rw [nl] at ev hvc
                obtain ⟨M, hM⟩ : ∃ M, (f t).length = M := ⟨_, rfl⟩
                rw [hM] at ev hvc
                have HMt := Aside.mk hM
                subst ev
                have HVT := Aside.mk hv
                have hMb : (M : Int) ≤ 1048576 := by have := HFL.it t; omega
                have hvc' : (M : Int) ≤ vc := by omega
                clear hv nl hM el2 hvc
                go_upto_region 44 with fail
                clear cv
                go_loopw [184] (fun iv wr => ∃ (i : Nat) (own : Nat → Nat), iv = .int .i64 i ∧ i ≤ M ∧ Aside (Fe A w own wr p most F (.slice fq fl fc) mb (.slice (some ⟨kb, 0, none⟩) X kc) ps (fP f t i) (fun t => (f t).length) (.slice none 0 0) [] (.slice la k lc) vs ln MM)) (fun iv _ => M - natOf iv)
                case atStart => exact ⟨0, own3, rfl, Nat.zero_le _, P⟩
                case round =>
                  clear P
                  obtain ⟨i, own4, rfl, hi, P⟩ := hrel
                  by_cases hin : i < M
                  · have hin' : (i : Int) < M := by omega
                    obtain ⟨kb', kc', el, _, cv⟩ := P.it.k.cell HVT.it
                    injection el with el1 el2 el3
                    injection el1 with el1
                    injection el1 with el1
                    subst el1
                    have X1 := P.it.x t _ HVT.it
                    rw [fP_at] at X1
                    have pl : (partP ((t : Int) % 256) i (f t)).length = M := by rw [partP_len (by rw [HMt.it]; exact hi)]; exact HMt.it
                    obtain ⟨b', c', v0, ee, fz, ce, X2, S2⟩ := X1.put (i := i) (by rw [pl]; exact hin) ((t : Int) % 256)
                    rw [pl] at ee
                    injection ee with ee1 ee2 ee3
                    subst ee1 ee3
                    rw [partP_step (by rw [HMt.it]; exact hin)] at X2
                    have P2 := Aside.mk ((P.it.at S2 (Nat.zero_le _) HVT.it X2).more (fun j _ => fP_step f t i j))
                    clear ee2 X1 X2 S2 pl P el2 el3
                    go_wp2_with fail
                    go_roundw
                    case rel => exact ⟨i + 1, own4, by go_num, by omega, P2⟩
                    case measure => simp [natOf]; omega
                  · have hin' : ¬ (i : Int) < M := by omega
                    have P2 := Aside.mk (P.it.more (g := fP f (t + 1) 0) (fun j _ => by rw [show i = (f t).length by rw [HMt.it]; omega]; exact fP_all f t j))
                    clear P
                    go_wp2_with fail
                    go_roundw
                    case rel => exact ⟨t + 1, own4, by go_num, by omega, P2⟩
                    case measure => simp [natOf]; omega
              · have htX' : ¬ (t : Int) < X := by omega
                have P0 : Aside (Fe A w own3 wr p most F (.slice fq fl fc) mb (.slice ka X kc) ps (fun t => rp (f t).length t) (fun t => (f t).length) (.slice none 0 0) [] (.slice la k lc) vs ln MM) := ⟨P.it.more (fun j hj => fP_end f (by rw [HPS.it] at hj; omega))⟩
                clear P
                as_aux_lemma =>
                  go_upto_region 51 with fail
                  go_loopw [27, 200] (fun gvv iv wr => ∃ (t : Nat) (ys : List Value) (own : Nat → Nat) (ga : Option Addr) (gc : Nat), gvv = .slice ga t gc ∧ iv = .int .i64 t ∧ t ≤ X ∧ Aside (ys.length = t) ∧ Aside (Fe A w own wr p most F (.slice fq fl fc) mb (.slice ka X kc) ps (fun t => rp (f t).length t) (fun t => (f t).length) (.slice ga t gc) ys (.slice la k lc) vs ln MM)) (fun _ iv _ => X - natOf iv)
                  case atStart => exact ⟨0, [], own3, none, 0, rfl, rfl, Nat.zero_le _, ⟨rfl⟩, P0⟩
                  case round =>
                    clear P0
                    obtain ⟨t2, ys, own4, ga, gc, rfl, rfl, ht2, HY, P⟩ := hrel
                    by_cases ht2X : t2 < X
                    · have htX2 : (t2 : Int) < X := by omega
                      have t0 : (t2 : Int) ≤ 1099511627776 := by omega
                      obtain ⟨v, hv⟩ : ∃ v, ps[t2]? = some v := ⟨_, List.getElem?_eq_getElem (by rw [HPS.it]; exact ht2X)⟩
                      obtain ⟨kb, kc', el, hkc, cv⟩ := P.it.k.cell hv
                      rw [HPS.it] at el hkc
                      injection el with el1 el2 el3
                      subst el1 el3
                      have X0 := P.it.x t2 v hv
                      obtain ⟨va, vc, ev, hvc⟩ := X0.shape
                      rw [rp_len] at ev hvc
                      obtain ⟨M, hM⟩ : ∃ M, (f t2).length = M := ⟨_, rfl⟩
                      rw [hM] at ev hvc X0
                      have HMt := Aside.mk hM
                      subst ev
                      have HVT := Aside.mk hv
                      have hMb : (M : Int) ≤ 1048576 := by have := HFL.it t2; omega
                      have hvc' : (M : Int) ≤ vc := by omega
                      have G0 : Aside (Gp own4 wr (.slice va M vc) (rp M t2) (.slice va (M + 0) vc) 0) := ⟨Grows.start X0 98⟩
                      clear hv hM el2 hvc X0
                      go_upto_region 55 with fail
                      clear cv
                      go_loopw [29, 30] (fun gx qv wr => ∃ (q : Nat) (own : Nat → Nat) (xb : Option Addr) (xd : Nat), gx = .slice xb (M + q) xd ∧ qv = .int .i64 q ∧ q ≤ 64 ∧ Aside (Gp own wr (.slice va M vc) (rp M t2) (.slice xb (M + q) xd) q) ∧ Aside (Fe A w own wr p most F (.slice fq fl fc) mb (.slice (some ⟨kb, 0, none⟩) X kc) ps (fun t => rp (f t).length t) (fun t => (f t).length) (.slice ga t2 gc) ys (.slice la k lc) vs ln MM)) (fun _ qv _ => 64 - natOf qv)
                      case atStart => exact ⟨0, own4, va, vc, rfl, rfl, by omega, G0, P⟩
                      case round =>
                        clear P G0
                        obtain ⟨q2, own5, xb, xd, rfl, rfl, hq2, G, P⟩ := hrel
                        have X1 := P.it.x t2 _ HVT.it
                        rw [HMt.it] at X1
                        rcases Nat.eq_or_lt_of_le hq2 with h64 | h64
                        · have h64' : ¬ (q2 : Int) < 64 := by omega
                          obtain ⟨kb', kc', el, _, cv⟩ := P.it.k.cell HVT.it
                          injection el with el1 el2 el3
                          injection el1 with el1
                          injection el1 with el1
                          subst el1
                          obtain ⟨a5, c5, w5, own6, run5, X5, Y5, S5⟩ := X1.appRun (tp t2) (by rw [rp_len]; omega)
                          rw [rp_len] at run5 Y5
                          have P5 : Aside (Fe A w own6 w5 p most F (.slice fq fl fc) mb (.slice (some ⟨kb, 0, none⟩) X kc) ps (fun t => rp (f t).length t) (fun t => (f t).length) (.slice ga t2 gc) ys (.slice la k lc) vs ln MM) := ⟨(P.it.at S5.it (by rw [HY.it]; exact Nat.le_refl _) HVT.it X5.it).more (fun j _ => by split; (rename_i e; subst e; rw [HMt.it]); rfl)⟩
                          obtain ⟨a6, c6, w6, own7, run6, P6⟩ := P5.it.gpush (v := .slice a5 (M + 1) c5) (by rw [HY.it]; simp only [HMt.it]; exact Y5.it) rfl (by rw [HY.it]; omega)
                          rw [HY.it] at run6 P6
                          have run5' : ∀ ty, (Builtin.append_ #[29, 29] ty #[.slice va M vc, .slice (some ⟨wr.heap.size, 0, none⟩) 1 1]).run Tryd.prog (wr.alloc (.cells #[.int .u8 (((t2 : Int) + 1) % 256)] 5)) = .ok (.slice a5 (M + 1) c5) w5 := run5
                          have cv2 : (wr.alloc (.cells #[.int .u8 (((t2 : Int) + 1) % 256)] 5)).cell? ⟨kb, t2 * 6 + 5, none⟩ = some (.slice va M vc) := alloc_cell _ cv
                          have HY6 : Aside ((ys ++ [Value.slice a5 (M + 1) c5]).length = t2 + 1) := ⟨by rw [List.length_append, HY.it]; rfl⟩
                          have hu7 : IntKind.i64.wrap ((t2 : Int) + 1) = (t2 : Int) + 1 := by rw [IntKind.wrap_i64]; omega
                          clear X1 X5 Y5 S5 P5 run5 P G h64 el2 el3
                          go_wp2_with fail
                          go_roundw
                          case rel => exact ⟨t2 + 1, ys ++ [.slice a5 (M + 1) c5], own7, a6, c6, rfl, by go_num, by omega, HY6, P6⟩
                          case measure => simp [natOf]; omega
                        · have h64' : (q2 : Int) < 64 := by omega
                          obtain ⟨a5, c5, w5, own6, run5, X5, G5, S5⟩ := Gp.run G.it X1 (by rw [rp_len]; omega) hq2
                          rw [rp_len] at run5 G5
                          have P5 : Aside (Fe A w own6 w5 p most F (.slice fq fl fc) mb (.slice (some ⟨kb, 0, none⟩) X kc) ps (fun t => rp (f t).length t) (fun t => (f t).length) (.slice ga t2 gc) ys (.slice la k lc) vs ln MM) := ⟨(P.it.at S5.it (by rw [HY.it]; exact Nat.le_refl _) HVT.it X5.it).more (fun j _ => by split; (rename_i e; subst e; rw [HMt.it]); rfl)⟩
                          clear X1 X5 S5 P G h64
                          go_wp2_with fail
                          go_roundw
                          case rel => exact ⟨q2 + 1, own6, a5, c5, rfl, by go_num, by omega, G5, P5⟩
                          case measure => simp [natOf]; omega
                    · have htX2 : ¬ (t2 : Int) < X := by omega
                      have HYX : Aside (ys.length = X) := ⟨by rw [HY.it]; omega⟩
                      obtain rfl : t2 = X := by omega
                      clear HY
                      as_aux_lemma =>
                        go_upto_region 61 with fail
                        go_loopw [231] (fun iv wr2 => ∃ (t : Nat), iv = .int .i64 t ∧ t ≤ t2 ∧ Aside (Fe A w own4 wr2 p most F (.slice fq fl fc) mb (.slice ka t2 kc) ps (fun t => rp (f t).length t) (fun t => (f t).length) (.slice ga t2 gc) ys (.slice la k lc) vs ln MM)) (fun iv _ => t2 - natOf iv)
                        case atStart => exact ⟨0, rfl, Nat.zero_le _, P⟩
                        case round =>
                          clear P
                          obtain ⟨t3, rfl, ht3, P⟩ := hrel
                          by_cases ht3X : t3 < t2
                          · have htX3 : (t3 : Int) < t2 := by omega
                            have t0 : (t3 : Int) ≤ 1099511627776 := by omega
                            obtain ⟨v, hv⟩ : ∃ v, ps[t3]? = some v := ⟨_, List.getElem?_eq_getElem (by rw [HPS.it]; exact ht3X)⟩
                            obtain ⟨y, hy⟩ : ∃ y, ys[t3]? = some y := ⟨_, List.getElem?_eq_getElem (by rw [HYX.it]; exact ht3X)⟩
                            obtain ⟨kb, kc', el, hkc, cv⟩ := P.it.k.cell hv
                            rw [HPS.it] at el hkc
                            injection el with el1 el2 el3
                            subst el1 el3
                            obtain ⟨gb, gc', eg, hgc, cy⟩ := rowV_cell P.it.gr hy
                            rw [HYX.it] at eg hgc
                            injection eg with eg1 eg2 eg3
                            subst eg1 eg3
                            have X0 := P.it.x t3 v hv
                            obtain ⟨va, vc, ev, hvc⟩ := X0.shape
                            rw [rp_len] at ev hvc
                            obtain ⟨M, hM⟩ : ∃ M, (f t3).length = M := ⟨_, rfl⟩
                            rw [hM] at ev hvc X0
                            subst ev
                            have XX := Aside.mk X0
                            have Y0 := P.it.gs t3 y hy
                            simp only [hM] at Y0
                            obtain ⟨yb, yc, ey, yy⟩ := Y0.cell (j := M) (y := tp t3) (by rw [List.getElem?_append_right (by rw [rp_len]; exact Nat.le_refl _), rp_len, Nat.sub_self]; rfl)
                            rw [List.length_append, rp_len] at ey
                            subst ey
                            have hMb : (M : Int) ≤ 1048576 := by have := HFL.it t3; omega
                            have yy' : wr.cell? ⟨yb, M, none⟩ = some (.int .u8 (((t3 : Int) + 1) % 256)) := yy
                            have SS := Aside.mk (show _ ∧ _ ∧ _ from ⟨cv, cy, yy'⟩)
                            have HVT := Aside.mk hv
                            clear hv hy hM el2 eg2 hvc X0 Y0 yy yy' cy
                            go_upto_region 64 with fail
                            clear cv
                            go_loopw [240] (fun iv wr3 => ∃ (i : Nat), iv = .int .i64 i ∧ i ≤ M ∧ wr3 = wr) (fun iv _ => M - natOf iv)
                            case atStart => exact ⟨0, rfl, Nat.zero_le _, rfl⟩
                            case round =>
                              obtain ⟨i, rfl, hi, rfl⟩ := hrel
                              by_cases hin : i < M
                              · have hin' : (i : Int) < M := by omega
                                obtain ⟨xb, xc, ex, xx⟩ := XX.it.cell (rp_at (t := t3) hin)
                                rw [rp_len] at ex
                                injection ex with ex1 ex2 ex3
                                subst ex1 ex3
                                have cv := SS.it.1
                                have e99 : (((t3 : Int) % 256) != ((t3 : Int) % 256)) = false := by simp
                                clear ex2
                                go_wp2_with fail
                                go_roundw
                                case rel => exact ⟨i + 1, by go_num, by omega, by trivial⟩
                                case measure => simp [natOf]; omega
                              · have hin' : ¬ (i : Int) < M := by omega
                                have KD : Aside (Keeps Nowhere wr wr.drew) := ⟨(Keeps.refl _ _).drew⟩
                                have e98 : ((((t3 : Int) + 1) % 256) != IntKind.u8.wrap (IntKind.i64.wrap ((t3 : Int) + 1))) = false := by rw [show IntKind.i64.wrap ((t3 : Int) + 1) = (t3 : Int) + 1 by rw [IntKind.wrap_i64]; omega, IntKind.wrap_u8]; simp
                                have m1 : (M : Int) < ((M + 1 : Nat) : Int) := by omega
                                have m2 : (M : Int) < (M : Int) + 1 := by omega
                                have PD := Aside.mk (P.it.quiet KD.it)
                                go_upto_region 69 with fail
                                go_region_held_law (fun w' => w'.cell? ⟨kb, t3 * 6 + 5, none⟩ = some (.slice va M vc) ∧ w'.cell? ⟨gb, t3, none⟩ = some (.slice (some ⟨yb, 0, none⟩) (M + 1) yc) ∧ w'.cell? ⟨yb, M, none⟩ = some (.int .u8 (((t3 : Int) + 1) % 256))) (exact SS.it) (fail)
                                all_goals
                                  go_wp2_with fail
                                  go_roundw
                                  case rel => exact ⟨t3 + 1, by go_num, by omega, PD⟩
                                  case measure => simp [natOf]; omega
                          · have htX3 : ¬ (t3 : Int) < t2 := by omega
                            go_upto_region 73 with fail
                            go_loopw [274] (fun iv wr2 => ∃ (q : Nat), iv = .int .i64 q ∧ q ≤ k ∧ wr2 = wr) (fun iv _ => k - natOf iv)
                            case atStart => exact ⟨0, rfl, Nat.zero_le _, rfl⟩
                            case round =>
                              obtain ⟨q, rfl, hq, rfl⟩ := hrel
                              by_cases hqk2 : q < k
                              · have hqk' : (q : Int) < k := by omega
                                obtain ⟨v, hv⟩ : ∃ v, vs[q]? = some v := ⟨_, List.getElem?_eq_getElem (by rw [HV.it]; exact hqk2)⟩
                                obtain ⟨va, vc, ev⟩ := HLN.it q v hv
                                obtain ⟨lb, lc', el, hlc, cv⟩ := rowV_cell P.it.l hv
                                rw [HV.it] at el hlc
                                injection el with el1 el2 el3
                                subst el1 el3
                                have L1 := P.it.ls q v hv
                                rw [HMM.it q hqk2] at L1
                                have hmx := L1.max
                                obtain ⟨n, hn⟩ : ∃ n, ln q = n := ⟨_, rfl⟩
                                rw [hn] at ev hmx L1
                                subst ev
                                have LL := Aside.mk L1
                                have hmx' : (n : Int) ≤ 9223372036854775807 := by omega
                                have hu1 : IntKind.u32.wrap (q : Int) = (q : Int) := by rw [IntKind.wrap_u32]; omega
                                have hu2 : (q : Int) % 4294967296 = (q : Int) := by omega
                                have e99 : ((q : Int) != (q : Int)) = false := by simp
                                clear hv hn el2 hmx L1
                                go_upto_region 76 with fail
                                clear cv
                                go_loopw [281] (fun iv wr3 => ∃ (i : Nat), iv = .int .i64 i ∧ i ≤ n ∧ wr3 = wr) (fun iv _ => n - natOf iv)
                                case atStart => exact ⟨0, rfl, Nat.zero_le _, rfl⟩
                                case round =>
                                  obtain ⟨i, rfl, hi, rfl⟩ := hrel
                                  by_cases hin : i < n
                                  · have hin' : (i : Int) < n := by omega
                                    have i0 : (i : Int) ≤ 9223372036854775806 := by omega
                                    obtain ⟨xb, xc, ex, xx⟩ := LL.it.get hin hin
                                    injection ex with ex1 ex2 ex3
                                    subst ex1 ex3
                                    clear ex2
                                    go_wp2_with fail
                                    go_roundw
                                    case rel => exact ⟨i + 1, by go_num, by omega, by trivial⟩
                                    case measure => simp [natOf]; omega
                                  · have hin' : ¬ (i : Int) < n := by omega
                                    go_wp2_with fail
                                    go_roundw
                                    case rel => exact ⟨q + 1, by go_num, by omega, by trivial⟩
                                    case measure => simp [natOf]; omega
                              · have hqk' : ¬ (q : Int) < k := by omega
                                have Q0 : Aside (Fq A w own4 wr.drew p most F (.slice fq fl fc) mb (.slice fq fl fc)) := ⟨P.it.q.quiet (Keeps.refl _ _).drew⟩
                                obtain ⟨hd, hhd⟩ : ∃ hd, Aside (heldS (prs most F).rest (prs most F).dead = hd) := ⟨_, ⟨rfl⟩⟩
                                obtain ⟨wd, hwd⟩ : ∃ wd, Aside (wantsS (prs most F).rest (prs most F).dead = wd) := ⟨_, ⟨rfl⟩⟩
                                have ehd : ((hd : Int) == (hd : Int)) = true := by simp
                                have ewd : ((wd : Int) == (wd : Int)) = true := by simp
                                go_upto_region 82 with fail
                                clear P
                                go_region_held_law (fun w' => w'.cell? ⟨mb, 0, none⟩ = some (.int .i64 most) ∧ w'.cell? ⟨mb, 1, none⟩ = some (.slice fq fl fc)) (with_reducible exact fq_cells (by with_reducible assumption)) (first
                                  | (go_at_call 10; with_reducible refine (fq_held Q0 hd hhd.it).mono ?_; rintro e w21 ⟨rfl, Q1⟩)
                                  | (go_at_call 11; with_reducible refine (fq_rheld Q1 HFB.it.2 HFB.it.1 hd hhd.it).mono ?_; rintro e w22 ⟨rfl, Q2⟩)
                                  | (go_at_call 12; with_reducible refine (fq_wants Q2 wd hwd.it).mono ?_; rintro e w23 ⟨rfl, Q3⟩)
                                  | (go_at_call 13; with_reducible refine (fq_rwants Q3 HFB.it.2 HFB.it.1 HM.it wd hwd.it).mono ?_; rintro e w24 ⟨rfl, Q4⟩)
                                  | fail)
                                all_goals
                                  go_wp2_with fail
                                  go_ret
                                  exact ⟨rfl, Q4.it.L.G.g.bel⟩
    · obtain ⟨z, hz⟩ : ∃ z, zs[k]? = some z := ⟨_, List.getElem?_eq_getElem (by rw [HN.it]; exact hlt)⟩
      have hzw := HZ.it
      rw [HN.it] at hzw
      obtain ⟨b, o, rfl, hc0, hrd, hbb⟩ := pc_cell (by rw [HN.it]; exact hzw) hz
      have hs1 := sum_take zs k z hz
      have hs2 := sum_take_le zs (k + 1)
      obtain ⟨sl, B⟩ := z
      simp only at hc0 hrd hbb hs1
      clear hz hzw
      have HS : Aside (F.length + B.length ≤ ((zs.take (k + 1)).map (fun z => z.ns.length)).sum ∧ F.length + B.length ≤ 1048576) := ⟨by have := hF.it; have := HSUM.it; omega⟩
      obtain ⟨ba, bc, hsl⟩ := hrd.shape
      subst hsl
      obtain ⟨BL, hBL⟩ : ∃ BL, B.length = BL := ⟨_, rfl⟩
      have HBL := Aside.mk hBL
      have HRD := Aside.mk hrd
      rw [hBL] at HRD hc0
      have HBB := Aside.mk hbb
      have hBLi : (BL : Int) ≤ 1048576 := by have := HS.it; omega
      clear hs1 hs2 hrd hBL hbb
      have hc1 : wr.cell? ⟨b, o + k, none⟩ = some (.slice ba BL bc) := by rw [P.it.1.L.G.g.bel.cell (World.block_lt_of_cell? w _ hc0)]; exact hc0
      have i1 : (k : Int) ≤ 9223372036854775806 := by omega
      clear hc0
      go_upto_region 13 with fail
      clear hc1
      -- whole
      obtain ⟨B3, hB3⟩ : ∃ B3, Aside (B3 = BL + 3) := ⟨_, ⟨rfl⟩⟩
      obtain ⟨w5, c5, run5, N5⟩ := mkRun wr B3 (by have := hB3.it; have := HS.it; have := HBL.it; omega)
      rw [show (B3 : Int) = (BL : Int) + 3 by have := hB3.it; omega] at run5
      obtain ⟨a6, c6, w6, run6, N6⟩ := appRun (m := BL) N5.it.row N5.it.k ((HRD.it.later P.it.1.L.G.g.bel).later N5.it.k.bel) (by have := HS.it; simp; omega) (by simpa using HBL.it)
      rw [List.nil_append] at N6
      have K6 : Aside (Keeps Nowhere w6 (w6.alloc (.cells #[.int .u8 91, .int .u8 92, .int .u8 93] 5))) := ⟨(Keeps.refl _ _).alloc _⟩
      obtain ⟨a7, c7, w7, run7, N7⟩ := appRun (m := B3) (OwnB.later N6.it.row K6.it.bel) (N6.it.k.trans K6.it) (lit3 w6) (by have := HS.it; have := HBL.it; simp; omega) (by rw [List.length_append, HBL.it, hB3.it]; rfl)
      have P7 := Aside.mk (And.intro (P.it.1.sn (I := fun _ => False) (Sn.quiet N7.it.k 9) (fun x => x) (fun x => x) (fun x => x) (fun x => x) (fun x => x)) (P.it.2.step N7.it.k 9))
      have XW7 := Aside.mk (N7.it.xw own)
      generalize give own wr.heap.size 9 = own7 at P7 XW7
      clear N5 N6 N7 K6 P
      obtain ⟨wb, wc1, he7, _⟩ := XW7.it.cell (j := BL) (y := 91) (by rw [List.getElem?_append_right (by rw [HBL.it]; exact Nat.le_refl _), HBL.it, Nat.sub_self]; rfl)
      injection he7 with he7 he7b he7c
      subst he7
      clear he7b he7c
      have hc7 : (B3 : Int) ≤ c7 := by
        obtain ⟨_, c', e, h⟩ := XW7.it.shape
        rw [List.length_append, HBL.it] at h
        injection e with _ _ e
        have := hB3.it
        simp at h
        omega
      go_upto_region 14 with fail
      clear run5 run6 run7
      go_upto_region 15 with fail
      have m0 : w7.cell? ⟨mb, 0, none⟩ = some (.int .i64 most) := by rw [P7.it.1.b.1.cell]; rfl
      have m1 : w7.cell? ⟨mb, 1, none⟩ = some (.slice fq fl fc) := by rw [P7.it.1.b.1.cell]; rfl
      have RF := Aside.mk (refFeed_any fq fl fc P7.it.1.r.1 hF.it.2 ba BL bc B (HRD.it.later P7.it.1.L.G.g.bel) HBB.it (by have := HS.it; omega) HM.it)
      go_upto_region 16 with (first | (go_at_call 7; refine RF.it.mono ?_; clear RF m0 m1; rintro e w8 ⟨q8, l8, c8, wq, wl, wc8, rfl, Y1, Y2, Y3⟩) | fail)
      obtain ⟨ys, hys, V9⟩ := Rv.begin P7.it.1 P7.it.2 XW7.it Y3.it Y1.it.1 Y1.it.2 Y2.it
      have V9 := Aside.mk V9
      clear Y1 Y2 Y3 P7 XW7
      generalize (give (give own7 w7.heap.size 5) w8.heap.size 6) = own9 at V9
      generalize (w8.alloc (.cells #[.int .i64 most, .slice q8 l8 c8] 31)) = W9 at V9 ⊢
      generalize w8.heap.size = nb at V9 ⊢
      have hLO := Aside.mk V9.it.e.low
      have FD := Aside.mk (feed_s (by decide) (by decide) V9.it.L.G V9.it.L.D (.slice (some ⟨wb, 0, none⟩) BL c7) B (V9.it.x.front HBL.it) HBB.it (by have := prs_rest_len most F; have := HS.it; omega))
      have hBc : (BL : Int) ≤ c7 := by have := hB3.it; omega
      go_upto_region 17 with (first | (go_at_call 8; refine FD.it.mono ?_; clear FD; rintro e w10 ⟨gv, ev, own10, rfl, X10⟩) | fail)
      obtain ⟨xs, hxs, R10, N10⟩ := V9.it.got X10.it
      have R10 := Aside.mk R10
      have HXY : Aside (xs.map (·.1) = ys.map (·.1)) := ⟨hxs.trans hys.symm⟩
      have HXL : Aside (xs.length ≤ 1048576 ∧ ∀ x ∈ xs, x.1.2.length ≤ 1048576) := ⟨by
        have h1 := step_count most F B
        have h2 := step_len most F B
        have h3 := prs_rest_len most F
        have h4 := HS.it
        rw [← hxs] at h1 h2
        rw [List.length_map] at h1
        exact ⟨by omega, fun x hx => by have := h2 x.1 (List.mem_map_of_mem hx); omega⟩⟩
      obtain ⟨F2, hF2⟩ : ∃ F2, fedN most F B = F2 := ⟨_, rfl⟩
      have HF2 : Aside (F2.length ≤ ((zs.take (k + 1)).map (fun z => z.ns.length)).sum ∧ AreBytes F2) := ⟨by
        have h1 := fedN_len (most := most) F B
        rw [hF2] at h1
        have h2 := HS.it
        exact ⟨by omega, by rw [← hF2]; exact fedN_bytes hF.it.2 HBB.it⟩⟩
      rw [hF2] at R10
      obtain ⟨ga, gc, hgv⟩ := owns_val R10.it.g.r
      obtain ⟨GL, hGL⟩ : ∃ GL, xs.length = GL := ⟨_, rfl⟩
      rw [hGL] at hgv
      have HGL := Aside.mk hGL
      subst hgv
      have n0 : w10.cell? ⟨nb, 0, none⟩ = some (.int .i64 most) := by rw [N10.1.cell]; rfl
      have n1 : w10.cell? ⟨nb, 1, none⟩ = some (.slice q8 l8 c8) := by rw [N10.1.cell]; rfl
      have m0 : w10.cell? ⟨mb, 0, none⟩ = some (.int .i64 most) := by rw [R10.it.q.b.1.cell]; rfl
      have m1 : w10.cell? ⟨mb, 1, none⟩ = some (.slice fq fl fc) := by rw [R10.it.q.b.1.cell]; rfl
      have z0 := R10.it.q.b.1.frozen 0
      have z1 := R10.it.q.b.1.frozen 1
      have R11 := Aside.mk R10.it.write
      clear hF2 hGL hxs hys V9 X10 R10 N10
      go_upto_region 18 with fail
      clear n0 n1 m0 m1 z0 z1
      generalize ((w10.setCell ⟨mb, 0, none⟩ (.int .i64 most)).setCell ⟨mb, 1, none⟩ (.slice q8 l8 c8)) = W11 at R11 ⊢
      generalize W9.heap.size = lo at R11 hLO
      obtain ⟨S, hS⟩ : ∃ S, Aside (strOf B = S) := ⟨_, ⟨rfl⟩⟩
      have HQ0 : Aside ((B ++ [91, 92, 93]).length = B3) := ⟨by rw [List.length_append, HBL.it, hB3.it]; rfl⟩
      have KD : Aside (Keeps Nowhere W11 W11.drew) := ⟨(Keeps.refl _ _).drew⟩
      have SS : Aside (∀ W', Keeps Nowhere W11 W' → (convert 29 9 (.slice (some ⟨wb, 0, none⟩) BL c7)).run Tryd.prog W' = .ok (.string S) W' ∧ (convert 29 9 (.slice ba BL bc)).run Tryd.prog W' = .ok (.string S) W' ∧ W'.cell? ⟨wb, BL, none⟩ = some (.int .u8 91) ∧ W'.cell? ⟨wb, BL + 1, none⟩ = some (.int .u8 92) ∧ W'.cell? ⟨wb, BL + 2, none⟩ = some (.int .u8 93)) := ⟨fun W' hk => by
        have R := R11.it.quiet hk
        have one : ∀ j y, ([91, 92, 93] : List Int)[j]? = some y → W'.cell? ⟨wb, BL + j, none⟩ = some (.int .u8 y) := fun j y hy => by
          obtain ⟨b', c', e, hce⟩ := R.x.cell (j := BL + j) (y := y) (by rw [List.getElem?_append_right (by rw [HBL.it]; omega), HBL.it, Nat.add_sub_cancel_left]; exact hy)
          injection e with e _ _
          injection e with e
          injection e with e
          subst e
          exact hce
        exact ⟨str_run (R.x.front HBL.it).rd hS, str_run (HRD.it.later R.q.L.G.g.bel) hS, one 0 _ rfl, one 1 _ rfl, one 2 _ rfl⟩⟩
      have SF := Aside.mk (sameFrames_eq (w := W11.drew) (.slice ga GL gc) (.slice wq wl wc8) (xs.map (·.1)) (R11.it.quiet KD.it).g.reads ⟨ys, HXY.it.symm, (R11.it.quiet KD.it).d.r, fun y hy => ((R11.it.quiet KD.it).d.y y hy).1⟩ (by rw [List.length_map]; have := HXL.it.1; omega))
      have b3 : (B3 : Int) = (BL : Int) + 3 := by have := hB3.it; omega
      have bA0 : (BL : Int) < (B3 : Int) := by omega
      have bA1 : (BL : Int) + 1 < (B3 : Int) := by omega
      have bA2 : (BL : Int) + 2 < (B3 : Int) := by omega
      have bT1 : ((BL : Int) + 1).toNat = BL + 1 := by omega
      have bT2 : ((BL : Int) + 2).toNat = BL + 2 := by omega
      have bG1 : (0 : Int) ≤ (BL : Int) + 1 := by omega
      have bG2 : (0 : Int) ≤ (BL : Int) + 2 := by omega
      have bN1 : BL + 1 < B3 := by omega
      have bN2 : BL + 2 < B3 := by omega
      have bM1 : ¬ (B3 : Int) ≤ (BL : Int) + 1 := by omega
      have bM2 : ¬ (B3 : Int) ≤ (BL : Int) + 2 := by omega
      have bC1 : ((BL + 1 : Nat) : Int) < (B3 : Int) := by omega
      have bC2 : ((BL + 2 : Nat) : Int) < (B3 : Int) := by omega
      have bW1 : IntKind.i64.wrap ((BL : Int) + 1) = (BL : Int) + 1 := by rw [IntKind.wrap_i64]; omega
      have bW2 : IntKind.i64.wrap ((BL : Int) + 2) = (BL : Int) + 2 := by rw [IntKind.wrap_i64]; omega
      have bD1 : ((0 : Int) ≤ (BL : Int) + 1 ∧ (BL : Int) + 1 < (B3 : Int)) = True := by simp only [eq_iff_iff, iff_true]; omega
      have bD2 : ((0 : Int) ≤ (BL : Int) + 2 ∧ (BL : Int) + 2 < (B3 : Int)) = True := by simp only [eq_iff_iff, iff_true]; omega
      clear b3
      go_cut [127] (fun yv wx => yv = .bool false ∧ Aside (Rw A w own10 wx p most F2 (.slice q8 l8 c8) mb (.slice q8 l8 c8) (.slice ga GL gc) xs lo (.slice wq wl wc8) ys (.slice ka X kc) XS (.slice wa Y wc0) YS (.slice la k lc) vs (.slice (some ⟨wb, 0, none⟩) B3 c7) (B ++ [91, 92, 93])))
      case first =>
        go_region_held_law (fun W' => (convert 29 9 (.slice (some ⟨wb, 0, none⟩) BL c7)).run Tryd.prog W' = .ok (.string S) W' ∧ (convert 29 9 (.slice ba BL bc)).run Tryd.prog W' = .ok (.string S) W' ∧ W'.cell? ⟨wb, BL, none⟩ = some (.int .u8 91) ∧ W'.cell? ⟨wb, BL + 1, none⟩ = some (.int .u8 92) ∧ W'.cell? ⟨wb, BL + 2, none⟩ = some (.int .u8 93)) (first | with_reducible exact SS.it _ KD.it | with_reducible exact SS.it _ K12.it) (first
          | (go_at_call 9; refine SF.it.mono ?_; rintro e w12 ⟨rfl, k12⟩; have K12 : Aside (Keeps Nowhere W11 w12) := ⟨KD.it.trans k12⟩)
          | fail)
        all_goals go_wp2_with fail
        all_goals go_meet
        all_goals exact ⟨rfl, ⟨R11.it.quiet K12.it⟩⟩
      case rest =>
      obtain ⟨rfl, R12⟩ := hcut
      clear SS SF KD R11
      generalize wc = W12 at R12 ⊢
      have L0 : Aside (∃ l : List Int, l.length = B3 ∧ Rw A w own10 W12 p most F2 (.slice q8 l8 c8) mb (.slice q8 l8 c8) (.slice ga GL gc) xs lo (.slice wq wl wc8) ys (.slice ka X kc) XS (.slice wa Y wc0) YS (.slice la k lc) vs (.slice (some ⟨wb, 0, none⟩) B3 c7) l) := ⟨_, HQ0.it, R12.it⟩
      have hB3i : (B3 : Int) ≤ 1048579 := by have := hB3.it; omega
      clear R12
      go_upto_region 21 with fail
      go_loopw [130] (fun iv wr => ∃ (i : Nat), iv = .int .i64 i ∧ i ≤ B3 ∧ Aside (∃ l : List Int, l.length = B3 ∧ Rw A w own10 wr p most F2 (.slice q8 l8 c8) mb (.slice q8 l8 c8) (.slice ga GL gc) xs lo (.slice wq wl wc8) ys (.slice ka X kc) XS (.slice wa Y wc0) YS (.slice la k lc) vs (.slice (some ⟨wb, 0, none⟩) B3 c7) l)) (fun iv _ => B3 - natOf iv)
      case atStart => exact ⟨0, rfl, Nat.zero_le _, L0⟩
      case round =>
        clear L0
        obtain ⟨i, rfl, hi, P⟩ := hrel
        by_cases hlt3 : i < B3
        · have hlt' : (i : Int) < B3 := by omega
          obtain ⟨l, hl, R⟩ := P.it
          obtain ⟨b', c', v0, ee, fz, ce, R2⟩ := R.put (i := i) (by rw [hl]; exact hlt3) 238
          rw [hl] at ee
          injection ee with ee1 ee2 ee3
          injection ee1 with ee1
          injection ee1 with ee1
          subst ee1 ee3
          have P2 : Aside (∃ l : List Int, l.length = B3 ∧ Rw A w own10 (wr.setCell ⟨wb, i, none⟩ (.int .u8 238)) p most F2 (.slice q8 l8 c8) mb (.slice q8 l8 c8) (.slice ga GL gc) xs lo (.slice wq wl wc8) ys (.slice ka X kc) XS (.slice wa Y wc0) YS (.slice la k lc) vs (.slice (some ⟨wb, 0, none⟩) B3 c7) l) := ⟨_, by rw [List.length_set]; exact hl, R2⟩
          clear ee2 R R2 P hl
          go_wp2_with fail
          go_roundw
          case rel => exact ⟨i + 1, by go_num, by omega, P2⟩
          case measure => simp [natOf]; omega
        · have hlt' : ¬ (i : Int) < B3 := by omega
          obtain ⟨l, hl, R⟩ := P.it
          obtain ⟨Y2, hY2⟩ : ∃ Y2, ys.length = Y2 := ⟨_, rfl⟩
          have hX2 : XS.length + xs.length ≤ 1099511627776 := by have h1 := BM.it.1.n; have h2 := HXL.it.1; have h3 : (k + 1) * 1048576 ≤ 1048576 * 1048576 := Nat.mul_le_mul_right _ (by omega); rw [Nat.succ_mul] at h3; omega
          have hX1 : XS.length + xs.length ≤ 3298534883328 := by omega
          obtain ⟨ka', kc', w13, wa', wc', w14, la', lc', w15, own15, run13, run14, run15, P15⟩ := R.grow HXY.it hX1 (by rw [BM.it.1.v]; omega) hLO.it rfl BM.it.2.1 HGL.it BM.it.2.2 hY2 BM.it.1.v
          have SF := Aside.mk (sameFrames_eq (w := w15) (.slice ka' (X + GL) kc') (.slice wa' (Y + Y2) wc') ((XS ++ xs).map (·.1)) P15.it.2.reads.1 P15.it.2.reads.2 (by rw [List.length_map, List.length_append]; omega))
          have HY2 := Aside.mk hY2
          clear R P hl hY2 hX1 hX2
          go_upto_region 28 with fail
          clear run13 run14 run15
          go_wp2_with (first
            | (go_at_call 9; refine SF.it.mono ?_; clear SF; rintro e w16 ⟨rfl, k16⟩)
            | fail)
          go_roundw
          case rel => exact ⟨k + 1, F2, q8, l8, c8, own15, ka', X + GL, kc', XS ++ xs, wa', Y + Y2, wc', YS ++ ys, la', lc', vs ++ [.slice ga GL gc], rfl, rfl, rfl, by go_num, hlt, HF2, ⟨⟨by rw [List.length_append, Nat.succ_mul]; have := BM.it.1.n; have := HXL.it.1; omega, fun x hx => (List.mem_append.1 hx).elim (BM.it.1.x x) (HXL.it.2 x), by rw [List.length_append, BM.it.1.v]; rfl⟩, by rw [List.length_append, BM.it.2.1, HGL.it], by rw [List.length_append, BM.it.2.2, HY2.it]⟩, ⟨P15.it.1.quiet k16, P15.it.2.quiet k16⟩⟩
          case measure => simp [natOf]; omega
end Go.Proofs.YtjhjhmhhnifgmaaDoor

/-
  culvertlaw05.FeedMemory: where there is no decoder; the whole
-/
namespace Go.Proofs.YtjhjhmhhnifgmaaDoor
open Go.RowKit

set_option maxRecDepth 20000 in
set_option maxHeartbeats 4000000 in
theorem feedMemory_bad {A : Nat → Addr} (most : Int) (s : Value) (w : World) (B0 : Base A w) (hs : ∃ a n c, s = .slice a n c) (hbad : most < 1 ∨ 65536 < most) :
    Calls Tryd.prog 3 #[.int .i64 most, s] w fun e w' => e = .returned (.bool true) ∧ Below w.heap.size w w' := by
  obtain ⟨a, n, c, rfl⟩ := hs
  have FX := Aside.mk (fixed5 B0)
  have HB0 := Aside.mk B0
  have HBAD := Aside.mk hbad
  clear B0 hbad
  go_enter Tryd.func3, Tryd.ntmps3
  go_upto_region 3 with (go_at_call 4; refine FX.it.mono ?_; clear FX; rintro e w1 ⟨rfl, hb1⟩)
  have K1 : Aside (Keeps Nowhere w w1) := ⟨Keeps.ofBelow hb1⟩
  clear hb1
  have NB := Aside.mk (new_bad most w1 (HB0.it.s.later K1.it.bel) HBAD.it)
  go_upto_region 4 with (first | (go_at_call 5; refine NB.it.mono ?_; clear NB; rintro e w2 ⟨rfl, h2⟩; have K2 : Aside (Keeps Nowhere w w2) := (by obtain ⟨n2, rfl⟩ := h2; exact ⟨K1.it.trans (drewN_keeps w1 n2)⟩); clear h2) | fail)
  have RN := Aside.mk (refNew_bad (w := w2) HBAD.it)
  go_upto_region 5 with (first | (go_at_call 6; refine RN.it.mono ?_; clear RN; rintro e w3 ⟨rfl, B3⟩) | fail)
  have K3 : Aside (Keeps Nowhere w (w3.alloc (.cells #[.int .i64 0, .slice none 0 0] 31))) := ⟨(K2.it.trans (Keeps.ofBelow B3.it)).alloc _⟩
  generalize (w3.alloc (.cells #[.int .i64 0, .slice none 0 0] 31)) = W4 at K3 ⊢
  clear K1 K2 B3
  go_upto_region 6 with fail
  by_cases h1 : most < 1
  · have d1 : decide (most < 1) = true := decide_eq_true h1
    go_wp2_with fail
    go_ret
    exact ⟨rfl, K3.it.bel⟩
  · have h2 : 65536 < most := by have := HBAD.it; omega
    have d1 : decide (most < 1) = false := decide_eq_false h1
    have d2 : decide (65536 < most) = true := decide_eq_true h2
    go_wp2_with fail
    go_ret
    exact ⟨rfl, K3.it.bel⟩
theorem feedMemory_walkU {A : Nat → Addr} (most : Int) (s : Value) (zs : List PcV) (w : World) (B0 : Base A w) (hz : PiecesArg w s zs) :
    Calls Tryd.prog 3 #[.int .i64 most, s] w fun e w' => e = .returned (.bool true) ∧ Below w.heap.size w w' := by
  by_cases h : 1 ≤ most ∧ most ≤ 65536
  · exact feedMemory_good most s zs w B0 hz h.1 h.2
  · obtain ⟨_, _, a, c, e, _⟩ := hz
    exact feedMemory_bad most s w B0 ⟨_, _, _, e⟩ (by omega)
end Go.Proofs.YtjhjhmhhnifgmaaDoor

