/-
  culvertlaw27.MsgMemory
-/
import Derived.Test.YtnocalkloinbbaaDoorMiB
import Derived.Deep.DeepCutAuto
import Derived.Deep.RegionHeld3
namespace Go.Proofs.YtnocalkloinbbaaDoor
open Go.RowKit
attribute [-go_sem] Builtin.append_

theorem parse_each {most : Nat} {F : List Int} : ∀ x ∈ (parseM most F).ms, x.length ≤ F.length := by
  induction hn : F.length using Nat.strongRecOn generalizing F with
  | _ n ih =>
    cases hd : hdM most F with
    | none => rw [parseM_none hd]; simp
    | some x =>
      cases x with
      | none => rw [parseM_bad hd]; simp
      | some x =>
        obtain ⟨m, k⟩ := x
        have hp := hdM_pos hd
        by_cases hl : F.length < k + m
        · rw [parseM_part hd hl]; simp
        · rw [parseM_more hd (by omega)]
          intro x hx
          rcases List.mem_cons.1 hx with rfl | hx
          · simp; omega
          · have := ih (F.drop (k + m)).length (by simp; omega) rfl x hx
            simp at this
            omega
theorem cnt_parse (most : Nat) (F : List Int) : (parseM most F).ms.length ≤ F.length := by
  induction hn : F.length using Nat.strongRecOn generalizing F with
  | _ n ih =>
    cases hd : hdM most F with
    | none => rw [parseM_none hd]; simp
    | some x =>
      cases x with
      | none => rw [parseM_bad hd]; simp
      | some x =>
        obtain ⟨m, k⟩ := x
        have hp := hdM_pos hd
        by_cases hl : F.length < k + m
        · rw [parseM_part hd hl]; simp
        · rw [parseM_more hd (by omega)]
          have := ih (F.drop (k + m)).length (by simp; omega) (F.drop (k + m)) rfl
          simp at this ⊢
          omega
theorem bytes_parse {most : Nat} {F : List Int} (hb : AreBytes F) : ∀ x ∈ (parseM most F).ms, AreBytes x := by
  induction hn : F.length using Nat.strongRecOn generalizing F with
  | _ n ih =>
    cases hd : hdM most F with
    | none => rw [parseM_none hd]; simp
    | some x =>
      cases x with
      | none => rw [parseM_bad hd]; simp
      | some x =>
        obtain ⟨m, k⟩ := x
        have hp := hdM_pos hd
        by_cases hl : F.length < k + m
        · rw [parseM_part hd hl]; simp
        · rw [parseM_more hd (by omega)]
          intro x hx
          rcases List.mem_cons.1 hx with rfl | hx
          · exact fun y hy => hb y (List.mem_of_mem_drop (List.mem_of_mem_take hy))
          · exact ih (F.drop (k + m)).length (by simp; omega) (fun y hy => hb y (List.mem_of_mem_drop hy)) rfl x hx

set_option maxRecDepth 20000 in
set_option maxHeartbeats 40000000 in
theorem msgMemory_good {A : Nat → Addr} {w : World} {most : Nat} (hm : most ≤ 1048576) (v : Value) (zs : List PcV) (hs : Sents 74 codeVars A w) (hz : PiecesArg w v zs) :
    Calls Tryd.prog 3 #[.int .i64 most, v] w fun e w' => e = .returned (.bool true) ∧ Below w.heap.size w w' := by
  obtain ⟨hz1, hz2, sa, sc, rfl, hsc1, hsc2, hzc⟩ := hz
  obtain ⟨M, hM⟩ : ∃ M, zs.length = M := ⟨_, rfl⟩
  rw [hM] at hz1 hsc1 ⊢
  have FX := Aside.mk (fixed27 hs)
  have HZ := Aside.mk hzc
  have HM := Aside.mk (And.intro hM hz2)
  have HS := Aside.mk hs
  have HMo := Aside.mk hm
  clear hs hzc hM hz2 hm
  go_enter Tryd.func3, Tryd.ntmps3
  go_upto_region 3 with (first | (go_at_call 4; refine FX.it.mono ?_; clear FX; rintro e w1 ⟨rfl, B1⟩) | fail)
  have NW := Aside.mk (lm_start (A := A) (most := most) (HS.it.later B1.it) HMo.it)
  go_upto_region 4 with (first | (go_at_call 5; refine NW.it.mono ?_; clear NW; rintro e w2 ⟨p, own2, rfl, L2, K2⟩) | fail)
  have ND := Aside.mk (refNew27_ok (w := w2) (most := most) HMo.it)
  go_upto_region 5 with (first | (go_at_call 6; refine ND.it.mono ?_; clear ND; rintro e w3 ⟨rfl, B3⟩) | fail)
  have K3 : Keeps Nowhere w2 w3 := Keeps.ofBelow B3.it
  have KA : Keeps Nowhere w3 (w3.alloc (.cells #[.int .i64 most, .slice none 0 0] 31)) := (Keeps.refl _ _).alloc _
  have G0 : Aside (Mv A w1 (give own2 w3.heap.size 6) (w3.alloc (.cells #[.int .i64 most, .slice none 0 0] 31)) p most [] w3.heap.size (.slice none 0 0) (.slice none 0 0) [] (.slice none 0 0) (.slice none 0 0) []) := ⟨by
    have e : parseM most [] = ⟨[], [], false⟩ := parseM_none rfl
    refine ⟨?_, ⟨Cells.new _ _ _, give_new (Nat.le_refl _)⟩, ⟨⟨⟨none, 0, rfl, by simp [bv], fun k u hk => by simp [bv] at hk⟩, fun l c e => by injection e with _ _ e; exact e.symm⟩, fun e => absurd rfl e⟩, RowM.nil _ _ _ _, RowL.nil _ _ _ _⟩
    rw [e]
    exact (L2.it.quiet K3).sn (I := fun _ => False) (Sn.quiet KA 6) (fun x => x) (fun x => x) (fun x => x)⟩
  have BW : Aside (Below w.heap.size w (w3.alloc (.cells #[.int .i64 most, .slice none 0 0] 31))) := ⟨B1.it.trans (((K2.it.trans K3).trans KA).bel.mono B1.it.size)⟩
  clear L2 K2 B3 K3 KA
  generalize w3.alloc (.cells #[.int .i64 most, .slice none 0 0] 31) = w4 at G0 BW ⊢
  generalize give own2 w3.heap.size 6 = own4 at G0
  generalize w3.heap.size = mb at G0 ⊢
  go_upto_region 9 with fail
  go_loopw [9, 10, 59] (fun kv kw iv wr => ∃ (k : Nat) (own : Nat → Nat) (F : List Int) (fq : Option Addr) (fl fc : Nat) (ka : Option Addr) (X kc : Nat) (wa : Option Addr) (wcn : Nat) (XS : List (List Int)), kv = .slice ka X kc ∧ kw = .slice wa X wcn ∧ iv = .int .i64 k ∧ k ≤ M ∧ Aside (F.length ≤ ((zs.take k).map (fun z => z.ns.length)).sum ∧ AreBytes F) ∧ Aside (XS = (parseM most F).ms ∧ XS.length = X) ∧ Aside (Mv A w1 own wr p most F mb (.slice fq fl fc) (.slice fq fl fc) F (.slice ka X kc) (.slice wa X wcn) XS)) (fun _ _ iv _ => M - natJ iv)
  case atStart => exact ⟨0, own4, [], _, _, _, none, 0, 0, none, 0, [], rfl, rfl, rfl, Nat.zero_le _, ⟨by simp, fun x hx => by cases hx⟩, ⟨(congrArg MOut.ms (parseM_none (most := most) (l := []) rfl)).symm, rfl⟩, G0⟩
  case round =>
    clear G0
    obtain ⟨k, own, F, fq, fl, fc, ka, X, kc, wa, wcn, XS, rfl, rfl, rfl, hk, hF, HX, P⟩ := hrel
    have BR : Aside (Below w.heap.size w wr) := ⟨B1.it.trans (P.it.L.g.g.bel.mono B1.it.size)⟩
    rcases Nat.eq_or_lt_of_le hk with heq | hlt
    · have hkM : ¬ (k : Int) < M := by omega
      clear heq
      obtain ⟨ps, hps, E0⟩ := Fe.begin P.it
      have HFB : Aside (F.length ≤ 1048576 ∧ AreBytes F) := ⟨by have h1 := hF.it; have h2 := sum_le (zs := zs) k; have h3 := HM.it.2; exact ⟨by omega, h1.2⟩⟩
      obtain ⟨f, hf⟩ : ∃ f : Nat → List Int, (fun t => ((XS[t]?).getD [])) = f := ⟨_, rfl⟩
      have E1 : Aside (Fe A w1 own wr p most F (.slice fq fl fc) mb (.slice ka X kc) ps (fP f 0 0) (fun t => (f t).length) (.slice none 0 0) []) := ⟨by
        subst hf
        exact E0.more (g := fP (fun t => (XS[t]?).getD []) 0 0) (fun t _ => (fP_start (fun t => (XS[t]?).getD []) t).symm)⟩
      have HFL : Aside (∀ t, (f t).length ≤ 1048576) := ⟨fun t => by
        rw [← hf]
        simp only
        cases hx : XS[t]? with
        | none => simp
        | some x => simp only [Option.getD_some]; have h1 := parse_each (most := most) (F := F) x (by rw [← HX.it.1]; exact List.mem_of_getElem? hx); have := HFB.it.1; omega⟩
      have hXb : (X : Int) ≤ 1048576 := by have h1 := cnt_parse most F; have h2 := HFB.it.1; have h3 := HX.it.2; rw [← HX.it.1] at h1; omega
      have HPS : Aside (ps.length = X) := ⟨by rw [hps]; exact HX.it.2⟩
      clear E0 hf hps P hF HX HZ BW
      as_aux_lemma =>
        go_upto_region 33 with fail
        go_loopw [158] (fun iv wr => ∃ (t : Nat) (own : Nat → Nat), iv = .int .i64 t ∧ t ≤ X ∧ Aside (Fe A w1 own wr p most F (.slice fq fl fc) mb (.slice ka X kc) ps (fP f t 0) (fun t => (f t).length) (.slice none 0 0) [])) (fun iv _ => X - natJ iv)
        case atStart => exact ⟨0, own, rfl, Nat.zero_le _, E1⟩
        case round =>
          clear E1
          obtain ⟨t, own3, rfl, ht, P⟩ := hrel
          by_cases htX : t < X
          · have htX' : (t : Int) < X := by omega
            have t0 : (t : Int) ≤ 1048576 := by omega
            obtain ⟨v, hv⟩ : ∃ v, ps[t]? = some v := ⟨_, List.getElem?_eq_getElem (by rw [HPS.it]; exact htX)⟩
            obtain ⟨kb, kc', el, hkc, cv⟩ := rowV_cell P.it.k hv
            rw [HPS.it] at el hkc
            injection el with el1 el2 el3
            subst el1 el3
            obtain ⟨va, vc, ev, hvc⟩ := (P.it.x t v hv).shape
            have nl : (fP f t 0 t).length = (f t).length := fP_len f (Nat.zero_le _)
            rw [nl] at ev hvc
            obtain ⟨M2, hM2⟩ : ∃ M2, (f t).length = M2 := ⟨_, rfl⟩
            rw [hM2] at ev hvc
            have HMt := Aside.mk hM2
            subst ev
            have HVT := Aside.mk hv
            have hMb : (M2 : Int) ≤ 1048576 := by have := HFL.it t; omega
            have hvc' : (M2 : Int) ≤ vc := by omega
            clear hv nl hM2 el2 hvc
            go_upto_region 36 with fail
            clear cv
            go_loopw [165] (fun iv wr => ∃ (i : Nat) (own : Nat → Nat), iv = .int .i64 i ∧ i ≤ M2 ∧ Aside (Fe A w1 own wr p most F (.slice fq fl fc) mb (.slice (some ⟨kb, 0, none⟩) X kc) ps (fP f t i) (fun t => (f t).length) (.slice none 0 0) [])) (fun iv _ => M2 - natJ iv)
            case atStart => exact ⟨0, own3, rfl, Nat.zero_le _, P⟩
            case round =>
              clear P
              obtain ⟨i, own4, rfl, hi, P⟩ := hrel
              by_cases hin : i < M2
              · have hin' : (i : Int) < M2 := by omega
                have X1 := P.it.x t _ HVT.it
                rw [fP_at] at X1
                have pl : (partP ((t : Int) % 256) i (f t)).length = M2 := by rw [partP_len (by rw [HMt.it]; exact hi)]; exact HMt.it
                obtain ⟨b', c', v0, ee, fz, ce, X2, S2⟩ := X1.put (i := i) (by rw [pl]; exact hin) ((t : Int) % 256)
                rw [pl] at ee
                injection ee with ee1 ee2 ee3
                subst ee1 ee3
                rw [partP_step (by rw [HMt.it]; exact hin)] at X2
                have P2 := Aside.mk ((P.it.at S2 (Nat.zero_le _) HVT.it X2).more (fun j _ => fP_step f t i j))
                clear ee2 X1 X2 S2 pl P
                go_wp2_with fail
                go_roundw
                case rel => exact ⟨i + 1, own4, by go_num, by omega, P2⟩
                case measure => simp [natJ]; omega
              · have hin' : ¬ (i : Int) < M2 := by omega
                have P2 := Aside.mk (P.it.more (g := fP f (t + 1) 0) (fun j _ => by rw [show i = (f t).length by rw [HMt.it]; omega]; exact fP_all f t j))
                clear P
                go_wp2_with fail
                go_roundw
                case rel => exact ⟨t + 1, own4, by go_num, by omega, P2⟩
                case measure => simp [natJ]; omega
          · have htX' : ¬ (t : Int) < X := by omega
            have P0 : Aside (Fe A w1 own3 wr p most F (.slice fq fl fc) mb (.slice ka X kc) ps (fun t => rp (f t).length t) (fun t => (f t).length) (.slice none 0 0) []) := ⟨P.it.more (fun j hj => fP_end f (by rw [HPS.it] at hj; omega))⟩
            clear P
            as_aux_lemma =>
              go_upto_region 43 with fail
              go_loopw [25, 177] (fun gvv iv wr => ∃ (t : Nat) (ys : List Value) (own : Nat → Nat) (ga : Option Addr) (gc : Nat), gvv = .slice ga t gc ∧ iv = .int .i64 t ∧ t ≤ X ∧ Aside (ys.length = t) ∧ Aside (Fe A w1 own wr p most F (.slice fq fl fc) mb (.slice ka X kc) ps (fun t => rp (f t).length t) (fun t => (f t).length) (.slice ga t gc) ys)) (fun _ iv _ => X - natJ iv)
              case atStart => exact ⟨0, [], own3, none, 0, rfl, rfl, Nat.zero_le _, ⟨rfl⟩, P0⟩
              case round =>
                clear P0
                obtain ⟨t2, ys, own4, ga, gc, rfl, rfl, ht2, HY, P⟩ := hrel
                by_cases ht2X : t2 < X
                · have htX2 : (t2 : Int) < X := by omega
                  have t0 : (t2 : Int) ≤ 1048576 := by omega
                  obtain ⟨v, hv⟩ : ∃ v, ps[t2]? = some v := ⟨_, List.getElem?_eq_getElem (by rw [HPS.it]; exact ht2X)⟩
                  obtain ⟨kb, kc', el, hkc, cv⟩ := rowV_cell P.it.k hv
                  rw [HPS.it] at el hkc
                  injection el with el1 el2 el3
                  subst el1 el3
                  have X0 := P.it.x t2 v hv
                  obtain ⟨va, vc, ev, hvc⟩ := X0.shape
                  rw [rp_len] at ev hvc
                  obtain ⟨M2, hM2⟩ : ∃ M2, (f t2).length = M2 := ⟨_, rfl⟩
                  rw [hM2] at ev hvc X0
                  have HMt := Aside.mk hM2
                  subst ev
                  have HVT := Aside.mk hv
                  have hMb : (M2 : Int) ≤ 1048576 := by have := HFL.it t2; omega
                  have hvc' : (M2 : Int) ≤ vc := by omega
                  have G0 : Aside (Gp own4 wr (.slice va M2 vc) (rp M2 t2) (.slice va (M2 + 0) vc) 0) := ⟨Grows.start X0 98⟩
                  clear hv hM2 el2 hvc X0
                  go_upto_region 47 with fail
                  clear cv
                  go_loopw [28, 29] (fun gx qv wr => ∃ (q : Nat) (own : Nat → Nat) (xb : Option Addr) (xd : Nat), gx = .slice xb (M2 + q) xd ∧ qv = .int .i64 q ∧ q ≤ 64 ∧ Aside (Gp own wr (.slice va M2 vc) (rp M2 t2) (.slice xb (M2 + q) xd) q) ∧ Aside (Fe A w1 own wr p most F (.slice fq fl fc) mb (.slice (some ⟨kb, 0, none⟩) X kc) ps (fun t => rp (f t).length t) (fun t => (f t).length) (.slice ga t2 gc) ys)) (fun _ qv _ => 64 - natJ qv)
                  case atStart => exact ⟨0, own4, va, vc, rfl, rfl, by omega, G0, P⟩
                  case round =>
                    clear P G0
                    obtain ⟨q2, own5, xb, xd, rfl, rfl, hq2, G, P⟩ := hrel
                    have X1 := P.it.x t2 _ HVT.it
                    rw [HMt.it] at X1
                    rcases Nat.eq_or_lt_of_le hq2 with h64 | h64
                    · have h64' : ¬ (q2 : Int) < 64 := by omega
                      obtain ⟨a5, c5, w5, own6, run5, X5, Y5, S5⟩ := X1.appRun (tp t2) (by rw [rp_len]; omega)
                      rw [rp_len] at run5 Y5
                      have P5 : Aside (Fe A w1 own6 w5 p most F (.slice fq fl fc) mb (.slice (some ⟨kb, 0, none⟩) X kc) ps (fun t => rp (f t).length t) (fun t => (f t).length) (.slice ga t2 gc) ys) := ⟨(P.it.at S5.it (by rw [HY.it]; exact Nat.le_refl _) HVT.it X5.it).more (fun j _ => by split; (rename_i e; subst e; rw [HMt.it]); rfl)⟩
                      obtain ⟨a6, c6, w6, own7, run6, P6⟩ := P5.it.gpush (v := .slice a5 (M2 + 1) c5) (by rw [HY.it]; simp only [HMt.it]; exact Y5.it) rfl (by rw [HY.it]; omega)
                      rw [HY.it] at run6 P6
                      have run5' : ∀ ty, (Builtin.append_ #[29, 29] ty #[.slice va M2 vc, .slice (some ⟨wr.heap.size, 0, none⟩) 1 1]).run Tryd.prog (wr.alloc (.cells #[.int .u8 (((t2 : Int) + 1) % 256)] 5)) = .ok (.slice a5 (M2 + 1) c5) w5 := run5
                      have HY6 : Aside ((ys ++ [Value.slice a5 (M2 + 1) c5]).length = t2 + 1) := ⟨by rw [List.length_append, HY.it]; rfl⟩
                      have hu7 : IntKind.i64.wrap ((t2 : Int) + 1) = (t2 : Int) + 1 := by rw [IntKind.wrap_i64]; omega
                      clear X1 X5 Y5 S5 P5 run5 P G h64
                      go_wp2_with fail
                      go_roundw
                      case rel => exact ⟨t2 + 1, ys ++ [.slice a5 (M2 + 1) c5], own7, a6, c6, rfl, by go_num, by omega, HY6, P6⟩
                      case measure => simp [natJ]; omega
                    · have h64' : (q2 : Int) < 64 := by omega
                      obtain ⟨a5, c5, w5, own6, run5, X5, G5, S5⟩ := Gp.run G.it X1 (by rw [rp_len]; omega) hq2
                      rw [rp_len] at run5 G5
                      have P5 : Aside (Fe A w1 own6 w5 p most F (.slice fq fl fc) mb (.slice (some ⟨kb, 0, none⟩) X kc) ps (fun t => rp (f t).length t) (fun t => (f t).length) (.slice ga t2 gc) ys) := ⟨(P.it.at S5.it (by rw [HY.it]; exact Nat.le_refl _) HVT.it X5.it).more (fun j _ => by split; (rename_i e; subst e; rw [HMt.it]); rfl)⟩
                      clear X1 X5 S5 P G h64
                      go_wp2_with fail
                      go_roundw
                      case rel => exact ⟨q2 + 1, own6, a5, c5, rfl, by go_num, by omega, G5, P5⟩
                      case measure => simp [natJ]; omega
                · have htX2 : ¬ (t2 : Int) < X := by omega
                  have HYX : Aside (ys.length = X) := ⟨by rw [HY.it]; omega⟩
                  obtain rfl : t2 = X := by omega
                  clear HY
                  as_aux_lemma =>
                    go_upto_region 53 with fail
                    go_loopw [202] (fun iv wr2 => ∃ (t : Nat), iv = .int .i64 t ∧ t ≤ t2 ∧ wr2 = wr) (fun iv _ => t2 - natJ iv)
                    case atStart => exact ⟨0, rfl, Nat.zero_le _, rfl⟩
                    case round =>
                      obtain ⟨t3, rfl, ht3, rfl⟩ := hrel
                      by_cases ht3X : t3 < t2
                      · have htX3 : (t3 : Int) < t2 := by omega
                        have t0 : (t3 : Int) ≤ 1048576 := by omega
                        obtain ⟨v, hv⟩ : ∃ v, ps[t3]? = some v := ⟨_, List.getElem?_eq_getElem (by rw [HPS.it]; exact ht3X)⟩
                        obtain ⟨y, hy⟩ : ∃ y, ys[t3]? = some y := ⟨_, List.getElem?_eq_getElem (by rw [HYX.it]; exact ht3X)⟩
                        obtain ⟨kb, kc', el, hkc, cv⟩ := rowV_cell P.it.k hv
                        rw [HPS.it] at el hkc
                        injection el with el1 el2 el3
                        subst el1 el3
                        obtain ⟨gb, gc', eg, hgc, cy⟩ := rowV_cell P.it.gr hy
                        rw [HYX.it] at eg hgc
                        injection eg with eg1 eg2 eg3
                        subst eg1 eg3
                        have X0 := P.it.x t3 v hv
                        obtain ⟨va, vc, ev, hvc⟩ := X0.shape
                        rw [rp_len] at ev hvc
                        obtain ⟨M2, hM2⟩ : ∃ M2, (f t3).length = M2 := ⟨_, rfl⟩
                        rw [hM2] at ev hvc X0
                        subst ev
                        have XX := Aside.mk X0
                        have Y0 := P.it.gs t3 y hy
                        simp only [hM2] at Y0
                        obtain ⟨yb, yc, ey, yy⟩ := Y0.cell (j := M2) (y := tp t3) (by rw [List.getElem?_append_right (by rw [rp_len]; exact Nat.le_refl _), rp_len, Nat.sub_self]; rfl)
                        rw [List.length_append, rp_len] at ey
                        subst ey
                        have hMb : (M2 : Int) ≤ 1048576 := by have := HFL.it t3; omega
                        have yy' : wr.cell? ⟨yb, M2, none⟩ = some (.int .u8 (((t3 : Int) + 1) % 256)) := yy
                        have CY := Aside.mk (And.intro cy yy')
                        clear hv hy hM2 el2 eg2 hvc X0 Y0 yy yy' cy
                        go_upto_region 56 with fail
                        clear cv
                        go_loopw [209] (fun iv wr3 => ∃ (i : Nat), iv = .int .i64 i ∧ i ≤ M2 ∧ wr3 = wr) (fun iv _ => M2 - natJ iv)
                        case atStart => exact ⟨0, rfl, Nat.zero_le _, rfl⟩
                        case round =>
                          obtain ⟨i, rfl, hi, rfl⟩ := hrel
                          by_cases hin : i < M2
                          · have hin' : (i : Int) < M2 := by omega
                            obtain ⟨xb, xc, ex, xx⟩ := XX.it.cell (rp_at (t := t3) hin)
                            rw [rp_len] at ex
                            injection ex with ex1 ex2 ex3
                            subst ex1 ex3
                            have e99 : (((t3 : Int) % 256) != ((t3 : Int) % 256)) = false := by simp
                            clear ex2
                            go_wp2_with fail
                            go_roundw
                            case rel => exact ⟨i + 1, by go_num, by omega, by trivial⟩
                            case measure => simp [natJ]; omega
                          · have hin' : ¬ (i : Int) < M2 := by omega
                            have e98 : ((((t3 : Int) + 1) % 256) != IntKind.u8.wrap (IntKind.i64.wrap ((t3 : Int) + 1))) = false := by rw [show IntKind.i64.wrap ((t3 : Int) + 1) = (t3 : Int) + 1 by rw [IntKind.wrap_i64]; omega, IntKind.wrap_u8]; simp
                            have e97 : ((((t3 : Int) + 1) % 256) != (((t3 : Int) + 1) % 256)) = false := by simp
                            have hu7 : IntKind.i64.wrap ((t3 : Int) + 1) = (t3 : Int) + 1 := by rw [IntKind.wrap_i64]; omega
                            have m1 : (M2 : Int) < ((M2 + 1 : Nat) : Int) := by omega
                            have m2 : (M2 : Int) < (M2 : Int) + 1 := by omega
                            have cy := CY.it.1
                            have yy' := CY.it.2
                            go_wp2_with fail
                            go_roundw
                            case rel => exact ⟨t3 + 1, by go_num, by omega, by trivial⟩
                            case measure => simp [natJ]; omega
                      · have htX3 : ¬ (t3 : Int) < t2 := by omega
                        have Q := P.it.q
                        obtain ⟨dv, hdv⟩ : ∃ dv, errV A (doneC (parseM most F).rest (parseM most F).dead) = dv := ⟨_, rfl⟩
                        obtain ⟨dn, hdn⟩ : ∃ dn, doneC (parseM most F).rest (parseM most F).dead = dn := ⟨_, rfl⟩
                        obtain ⟨nr, hnr⟩ : ∃ nr, (parseM most F).rest.length = nr := ⟨_, rfl⟩
                        have HLk := Aside.mk (lm_held Q.L)
                        have DNk := Aside.mk (lm_done Q.L)
                        have CDd := Aside.mk (lm_code Q.L (doneC_coded A (parseM most F).rest (parseM most F).dead))
                        have RHk := Aside.mk (show Ke wr 11 #[.agg #[.int .i64 most, .slice fq fl fc]] (.int .i64 (parseM most F).rest.length) from Ke.below (fun W' k => by
                          have := refHeld27 (most := most) fq fl fc (Q.fed.1.later k.bel) HFB.it.2 (by have := HFB.it.1; omega) HMo.it
                          rw [held_same] at this
                          exact this))
                        have RDk := Aside.mk (show Ke wr 14 #[.agg #[.int .i64 most, .slice fq fl fc]] (.int .i64 (doneC (parseM most F).rest (parseM most F).dead)) from Ke.below (fun W' k => by
                          have := refDone27 (most := most) fq fl fc (Q.fed.1.later k.bel) HFB.it.2 (by have := HFB.it.1; omega) HMo.it
                          rw [done_same] at this
                          exact this))
                        have QC := Fq.cells ⟨Q⟩
                        have x0 := QC.1
                        have x1 := QC.2
                        rw [hdv] at DNk
                        rw [hdv, hdn] at CDd
                        rw [hdn] at RDk
                        rw [hnr] at HLk RHk
                        have BL : Aside (Below w1.heap.size w1 wr) := ⟨Q.L.g.g.bel⟩
                        clear hdv hdn hnr Q QC P
                        go_upto_region 64 with fail
                        have y0 := fun n : KeW wr => KeW.cell x0 n
                        have y1 := fun n : KeW wr => KeW.cell x1 n
                        have C3 := Aside.mk (fun s => KeW.call HLk.it s)
                        have C4 := Aside.mk (fun s => KeW.call DNk.it s)
                        have C5 := Aside.mk (fun s => KeW.call CDd.it s)
                        have C6 := Aside.mk (fun s => KeW.call RHk.it s)
                        have C7 := Aside.mk (fun s => KeW.call RDk.it s)
                        have e1 : (nr == nr) = true := by simp
                        have e2 : (dn == dn) = true := by simp
                        haveI : Nonempty (KeW wr) := ⟨⟨wr, Keeps.refl _ _⟩⟩
                        refine wp_region_quietF (KeW.W (w1 := wr)) (by kernel_rfl) (by kernel_rfl) ⟨wr.drew, (Keeps.refl _ _).drew⟩ rfl ?_
                        repeat (go_big_quiet_step (first
                          | (go_at_call 12; exact C5.it _)
                          | (go_at_call 10; exact C3.it _)
                          | (go_at_call 13; exact C4.it _)
                          | (go_at_call 11; exact C6.it _)
                          | (go_at_call 14; exact C7.it _)))
                        refine wpQuiet_nil ?_
                        rintro _ ⟨n11, rfl⟩
                        have Y := Aside.mk (n11.ok)
                        clear y0 y1 C3 C4 C5 C6 C7 HLk DNk CDd RHk RDk x0 x1
                        generalize n11.W = w11 at *
                        go_wp2
                        go_ret
                        exact ⟨rfl, B1.it.trans ((BL.it.trans (Y.it.bel.mono BL.it.size)).mono B1.it.size)⟩
    · obtain ⟨z, hzi⟩ : ∃ z, zs[k]? = some z := ⟨_, List.getElem?_eq_getElem (by rw [HM.it.1]; exact hlt)⟩
      obtain ⟨gz, oz, cs, rfl, ⟨rfl, hzr, hzb⟩, _, hcs⟩ := HZ.it k z hzi
      have cz : wr.cell? ⟨gz, oz + k, none⟩ = some z.sl := by
        have := hcs 0 (by decide)
        rw [Nat.mul_one, Nat.add_zero] at this
        rw [BR.it.cell (World.block_lt_of_cell? w _ this)]
        exact this
      obtain ⟨ba, bc, hzsl⟩ := hzr.shape
      have hsum := sum_take hzi
      have hle := sum_le (zs := zs) (k + 1)
      obtain ⟨B, hB⟩ : ∃ B, z.ns = B := ⟨_, rfl⟩
      rw [hB] at hzr hzb hzsl hsum
      obtain ⟨BL, hBL⟩ : ∃ BL, B.length = BL := ⟨_, rfl⟩
      rw [hBL] at hzsl hsum
      rw [hzsl] at cz hzr
      have HBL := Aside.mk hBL
      have HRD := Aside.mk hzr
      have HBB := Aside.mk hzb
      have HS2 : Aside (F.length + BL ≤ ((zs.take (k + 1)).map (fun z => z.ns.length)).sum ∧ F.length + BL ≤ 1048576) := ⟨by have := hF.it.1; have := HM.it.2; omega⟩
      have hBLi : (BL : Int) ≤ 1048576 := by have := HS2.it; omega
      have hlt' : (k : Int) < (M : Int) := by omega
      have hki : (k : Int) ≤ 1048576 := by omega
      clear hcs hzr hzb hBL hB hzi hzsl hsum hle BW
      go_upto_region 11 with fail
      clear cz
      -- whole
      obtain ⟨B3, hB3⟩ : ∃ B3, Aside (B3 = BL + 3) := ⟨_, ⟨rfl⟩⟩
      obtain ⟨w5, c5, run5, N5⟩ := mkRun wr B3 (by have := hB3.it; have := HS2.it; omega)
      rw [show (B3 : Int) = (BL : Int) + 3 by have := hB3.it; omega] at run5
      obtain ⟨a6, c6, w6, run6, N6⟩ := appRun (m := BL) N5.it.row N5.it.k ((HRD.it.later BR.it).later N5.it.k.bel) (by have := HS2.it; have := HBL.it; simp; omega) (by simpa using HBL.it)
      rw [List.nil_append] at N6
      have K6 : Aside (Keeps Nowhere w6 (w6.alloc (.cells #[.int .u8 91, .int .u8 92, .int .u8 93] 5))) := ⟨(Keeps.refl _ _).alloc _⟩
      obtain ⟨a7, c7, w7, run7, N7⟩ := appRun (m := B3) (OwnB.later N6.it.row K6.it.bel) (N6.it.k.trans K6.it) (lit3 w6) (by have := HS2.it; have := HBL.it; simp; omega) (by rw [List.length_append, HBL.it, hB3.it]; rfl)
      have P7 := Aside.mk (P.it.sn (I := fun _ => False) (Sn.quiet N7.it.k 3) (fun _ x => x.elim))
      have XW7 := Aside.mk (N7.it.xw own)
      have BR7 : Aside (Below w.heap.size w w7) := ⟨BR.it.trans (N7.it.k.bel.mono BR.it.size)⟩
      generalize give own wr.heap.size 3 = own7 at P7 XW7
      clear N5 N6 N7 K6 P BR
      obtain ⟨wb, wc1, he7, _⟩ := XW7.it.cell (j := BL) (y := 91) (by rw [List.getElem?_append_right (by rw [HBL.it]; exact Nat.le_refl _), HBL.it, Nat.sub_self]; rfl)
      injection he7 with he7 he7b he7c
      subst he7
      clear he7b he7c
      have hc7 : (B3 : Int) ≤ c7 := by
        obtain ⟨_, c', e, h⟩ := XW7.it.shape
        rw [List.length_append, HBL.it] at h
        injection e with _ _ e
        have := hB3.it
        simp at h
        omega
      go_upto_region 12 with fail
      clear run5 run6 run7
      go_upto_region 13 with fail
      have m0 : w7.cell? ⟨mb, 0, none⟩ = some (.int .i64 most) := by rw [P7.it.box.1.cell]; rfl
      have m1 : w7.cell? ⟨mb, 1, none⟩ = some (.slice fq fl fc) := by rw [P7.it.box.1.cell]; rfl
      have RF := Aside.mk (refFeed27_any (w := w7) (most := most) fq fl fc P7.it.fed.1 hF.it.2 ba BL bc (HRD.it.later BR7.it) HBB.it (by have := HS2.it; have := HBL.it; omega) HMo.it)
      go_upto_region 14 with (first | (go_at_call 7; refine RF.it.mono ?_; clear RF m0 m1; rintro e w8 ⟨q8, l8, c8, wq, wl, wc8, rfl, Y1, Y2, Y3⟩) | fail)
      obtain ⟨own9, V9, D9, X9, N9⟩ := P7.it.begin XW7.it Y3.it Y1.it.1 Y1.it.2 Y2.it
      have V9 := Aside.mk V9
      have D9 := Aside.mk D9
      have X9 := Aside.mk X9
      have N9 := Aside.mk N9
      have BR9 : Aside (Below w.heap.size w (w8.alloc (.cells #[.int .i64 most, .slice q8 l8 c8] 31))) := ⟨BR7.it.trans (((Keeps.ofBelow Y3.it).trans ((Keeps.refl _ _).alloc _)).bel.mono BR7.it.size)⟩
      clear Y1 Y2 Y3 P7 XW7
      generalize (w8.alloc (.cells #[.int .i64 most, .slice q8 l8 c8] 31)) = W9 at V9 D9 X9 N9 BR9 ⊢
      generalize w8.heap.size = nb at N9 ⊢
      have FD := Aside.mk (V9.it.feed X9.it HBL.it HBB.it (by have := HS2.it; have := HBL.it; omega))
      have hBc : (BL : Int) ≤ c7 := by have := hB3.it; omega
      obtain ⟨ms, hms⟩ : ∃ ms, gotM most F B = ms := ⟨_, rfl⟩
      obtain ⟨F2, hF2⟩ : ∃ F2, fedM most F B = F2 := ⟨_, rfl⟩
      have FN : Aside ((parseM most F2).ms = XS ++ ms) := ⟨by rw [← hF2, fedM_next, hms, HX.it.1]⟩
      have HF2 : Aside (F2.length ≤ ((zs.take (k + 1)).map (fun z => z.ns.length)).sum ∧ AreBytes F2 ∧ F2.length ≤ 1048576) := ⟨by
        have h1 := fedM_len (most := most) F B
        rw [hF2] at h1
        have h2 := HS2.it
        have h3 := HBL.it
        exact ⟨by omega, by rw [← hF2]; exact fedM_bytes hF.it.2 HBB.it, by omega⟩⟩
      rw [hms] at FD D9
      rw [hF2] at FD V9
      obtain ⟨GL, hGL⟩ : ∃ GL, ms.length = GL := ⟨_, rfl⟩
      rw [hGL] at FD
      have HGL := Aside.mk hGL
      clear hms hF2 hGL
      go_upto_region 15 with (first | (go_at_call 8; refine FD.it.mono ?_; clear FD; rintro e w10 ⟨ga, gc, ev, own10, rfl, R10⟩) | fail)
      have S10 := R10.it.2.2.2
      have N10 := Aside.mk (N9.it.sx S10 (by rintro (e | e | e) <;> omega))
      have D10 := Aside.mk (D9.it.sx S10 (by rintro (e | e | e) <;> omega))
      have R11 := Aside.mk (R10.it.1.write R10.it.2.1 D10.it R10.it.2.2.1)
      have b0 : w10.cell? ⟨nb, 0, none⟩ = some (.int .i64 most) := by rw [N10.it.1.cell]; rfl
      have b1 : w10.cell? ⟨nb, 1, none⟩ = some (.slice q8 l8 c8) := by rw [N10.it.1.cell]; rfl
      have TH := Aside.mk (there2 R10.it.1.box.1)
      have TI := Aside.mk (read27Info (.int .i64 most) (.slice q8 l8 c8))
      have TO : Aside ((#[.int .i64 most, .slice q8 l8 c8] : Array Value).all (·.oneCell') = true) := ⟨by simp [Value.oneCell']⟩
      clear V9 D9 X9 N9 R10 S10 N10 D10
      go_upto_region 16 with (first | (refine wpList_store_mid rfl 31 _ _ rfl mb 0 #[.int .i64 most, .slice q8 l8 c8] rfl rfl TH.it TI.it TO.it ?_) | fail)
      clear b0 b1 TH TI TO
      dsimp only [Act.put]
      generalize (w10.setCells mb 0 (#[.int .i64 most, .slice q8 l8 c8] : Array Value).toList) = W11 at R11 ⊢
      obtain ⟨S, hS⟩ : ∃ S, Aside (strOf B = S) := ⟨_, ⟨rfl⟩⟩
      have HQ0 : Aside ((B ++ [91, 92, 93]).length = B3) := ⟨by rw [List.length_append, HBL.it, hB3.it]; rfl⟩
      have KD : Aside (Keeps Nowhere W11 W11.drew) := ⟨(Keeps.refl _ _).drew⟩
      have HBX : Aside ((∀ x ∈ XS ++ ms, AreBytes x) ∧ X + GL ≤ 1048576 ∧ XS.length = X) := ⟨by
        have h1 := bytes_parse (most := most) HF2.it.2.1
        have h2 := cnt_parse most F2
        rw [FN.it] at h1 h2
        rw [List.length_append, HGL.it, HX.it.2] at h2
        have := HF2.it.2.2
        exact ⟨h1, by omega, HX.it.2⟩⟩
      have BRx : Aside (∀ W', Keeps Nowhere W11 W' → Below w.heap.size w W') := ⟨fun W' hk => B1.it.trans ((R11.it.quiet hk).v.L.g.g.bel.mono B1.it.size)⟩
      have SS : Aside (∀ W', Keeps Nowhere W11 W' → (convert 29 9 (.slice (some ⟨wb, 0, none⟩) BL c7)).run Tryd.prog W' = .ok (.string S) W' ∧ (convert 29 9 (.slice ba BL bc)).run Tryd.prog W' = .ok (.string S) W' ∧ W'.cell? ⟨wb, BL, none⟩ = some (.int .u8 91) ∧ W'.cell? ⟨wb, BL + 1, none⟩ = some (.int .u8 92) ∧ W'.cell? ⟨wb, BL + 2, none⟩ = some (.int .u8 93)) := ⟨fun W' hk => by
        have R := R11.it.quiet hk
        have one : ∀ j y, ([91, 92, 93] : List Int)[j]? = some y → W'.cell? ⟨wb, BL + j, none⟩ = some (.int .u8 y) := fun j y hy => by
          obtain ⟨b', c', e, hce⟩ := R.x.cell (j := BL + j) (y := y) (by rw [List.getElem?_append_right (by rw [HBL.it]; omega), HBL.it, Nat.add_sub_cancel_left]; exact hy)
          injection e with e _ _
          injection e with e
          injection e with e
          subst e
          exact hce
        exact ⟨str_run (R.x.front HBL.it).1 hS, str_run (HRD.it.later (BRx.it W' hk)) hS, one 0 _ rfl, one 1 _ rfl, one 2 _ rfl⟩⟩
      have SF : Aside (Calls Tryd.prog 9 #[.slice ga GL gc, .slice wq wl wc8] W11.drew fun e w' => e = .returned (.bool true) ∧ Keeps Nowhere W11.drew w') := ⟨by
        have R := R11.it.quiet KD.it
        have h0 := HBX.it.1
        refine Calls.mono (?_ : Calls _ _ _ _ fun e w' => e = .returned (.bool true) ∧ ∃ m, w' = W11.drew.drewN m) (by rintro e w' ⟨rfl, m, rfl⟩; exact ⟨rfl, (Keeps.refl _ _).drewN m⟩)
        have := same27 R.g.rdL R.d (fun x hx => h0 x (List.mem_append_right _ hx)) (fun x hx => h0 x (List.mem_append_right _ hx)) (by have := HBX.it.2; rw [HGL.it]; omega) (by have := HBX.it.2; rw [HGL.it]; omega)
        simpa using this⟩
      have b3 : (B3 : Int) = (BL : Int) + 3 := by have := hB3.it; omega
      have bA0 : (BL : Int) < (B3 : Int) := by omega
      have bA1 : (BL : Int) + 1 < (B3 : Int) := by omega
      have bA2 : (BL : Int) + 2 < (B3 : Int) := by omega
      have bT1 : ((BL : Int) + 1).toNat = BL + 1 := by omega
      have bT2 : ((BL : Int) + 2).toNat = BL + 2 := by omega
      have bG1 : (0 : Int) ≤ (BL : Int) + 1 := by omega
      have bG2 : (0 : Int) ≤ (BL : Int) + 2 := by omega
      have bN1 : BL + 1 < B3 := by omega
      have bN2 : BL + 2 < B3 := by omega
      have bM1 : ¬ (B3 : Int) ≤ (BL : Int) + 1 := by omega
      have bM2 : ¬ (B3 : Int) ≤ (BL : Int) + 2 := by omega
      have bC1 : ((BL + 1 : Nat) : Int) < (B3 : Int) := by omega
      have bC2 : ((BL + 2 : Nat) : Int) < (B3 : Int) := by omega
      have bW1 : IntKind.i64.wrap ((BL : Int) + 1) = (BL : Int) + 1 := by rw [IntKind.wrap_i64]; omega
      have bW2 : IntKind.i64.wrap ((BL : Int) + 2) = (BL : Int) + 2 := by rw [IntKind.wrap_i64]; omega
      have bD1 : ((0 : Int) ≤ (BL : Int) + 1 ∧ (BL : Int) + 1 < (B3 : Int)) = True := by simp only [eq_iff_iff, iff_true]; omega
      have bD2 : ((0 : Int) ≤ (BL : Int) + 2 ∧ (BL : Int) + 2 < (B3 : Int)) = True := by simp only [eq_iff_iff, iff_true]; omega
      clear b3 hF HX HBB HS2
      go_cut [124] (fun yv wx => yv = .bool false ∧ Aside (Rw A w1 own10 wx p most F2 mb (.slice q8 l8 c8) (.slice ka X kc) (.slice wa X wcn) XS (.slice ga GL gc) ms (.slice wq wl wc8) (.slice (some ⟨wb, 0, none⟩) B3 c7) (B ++ [91, 92, 93])))
      case first =>
        go_region_held_law (fun W' => (convert 29 9 (.slice (some ⟨wb, 0, none⟩) BL c7)).run Tryd.prog W' = .ok (.string S) W' ∧ (convert 29 9 (.slice ba BL bc)).run Tryd.prog W' = .ok (.string S) W' ∧ W'.cell? ⟨wb, BL, none⟩ = some (.int .u8 91) ∧ W'.cell? ⟨wb, BL + 1, none⟩ = some (.int .u8 92) ∧ W'.cell? ⟨wb, BL + 2, none⟩ = some (.int .u8 93)) (first | with_reducible exact SS.it _ KD.it | with_reducible exact SS.it _ K12.it) (first
          | (go_at_call 9; refine SF.it.mono ?_; rintro e w12 ⟨rfl, k12⟩; have K12 : Aside (Keeps Nowhere W11 w12) := ⟨KD.it.trans k12⟩)
          | fail)
        all_goals go_wp2_with fail
        all_goals go_meet
        all_goals exact ⟨rfl, ⟨R11.it.quiet K12.it⟩⟩
      case rest =>
      obtain ⟨rfl, R12⟩ := hcut
      clear SS SF KD R11 BRx
      generalize wc = W12 at R12 ⊢
      have L0 : Aside (∃ l : List Int, l.length = B3 ∧ Rw A w1 own10 W12 p most F2 mb (.slice q8 l8 c8) (.slice ka X kc) (.slice wa X wcn) XS (.slice ga GL gc) ms (.slice wq wl wc8) (.slice (some ⟨wb, 0, none⟩) B3 c7) l) := ⟨_, HQ0.it, R12.it⟩
      have hB3i : (B3 : Int) ≤ 1048579 := by have := hB3.it; omega
      clear R12
      go_upto_region 19 with fail
      go_loopw [127] (fun iv wr => ∃ (i : Nat), iv = .int .i64 i ∧ i ≤ B3 ∧ Aside (∃ l : List Int, l.length = B3 ∧ Rw A w1 own10 wr p most F2 mb (.slice q8 l8 c8) (.slice ka X kc) (.slice wa X wcn) XS (.slice ga GL gc) ms (.slice wq wl wc8) (.slice (some ⟨wb, 0, none⟩) B3 c7) l)) (fun iv _ => B3 - natJ iv)
      case atStart => exact ⟨0, rfl, Nat.zero_le _, L0⟩
      case round =>
        clear L0
        obtain ⟨i, rfl, hi, P⟩ := hrel
        by_cases hlt3 : i < B3
        · have hlt4 : (i : Int) < B3 := by omega
          obtain ⟨l, hl, R⟩ := P.it
          obtain ⟨b', c', v0, ee, fz, ce, R2⟩ := R.put (i := i) (by rw [hl]; exact hlt3) 238
          rw [hl] at ee
          injection ee with ee1 ee2 ee3
          injection ee1 with ee1
          injection ee1 with ee1
          subst ee1 ee3
          have P2 : Aside (∃ l : List Int, l.length = B3 ∧ Rw A w1 own10 (wr.setCell ⟨wb, i, none⟩ (.int .u8 238)) p most F2 mb (.slice q8 l8 c8) (.slice ka X kc) (.slice wa X wcn) XS (.slice ga GL gc) ms (.slice wq wl wc8) (.slice (some ⟨wb, 0, none⟩) B3 c7) l) := ⟨_, by rw [List.length_set]; exact hl, R2⟩
          clear ee2 R R2 P hl
          go_wp2_with fail
          go_roundw
          case rel => exact ⟨i + 1, by go_num, by omega, P2⟩
          case measure => simp [natJ]; omega
        · have hlt4 : ¬ (i : Int) < B3 := by omega
          obtain ⟨l, hl, R⟩ := P.it
          obtain ⟨ka', kc', w13, wa', wc', w14, own14, run13, run14, P14, O14⟩ := R.grow HBX.it.2.2 HGL.it (by have := HBX.it.2.1; omega)
          clear R P hl
          have hGLi : (GL : Int) ≤ 1048576 := by have := HBX.it.2.1; omega
          go_upto_region 25 with fail
          clear run13 run14
          go_loopw [142] (fun iv wr2 => ∃ (j : Nat), iv = .int .i64 j ∧ j ≤ GL ∧ Aside (Mv A w1 own14 wr2 p most F2 mb (.slice q8 l8 c8) (.slice q8 l8 c8) F2 (.slice ka' (X + GL) kc') (.slice wa' (X + GL) wc') (XS ++ ms)) ∧ Aside (∃ cs, OwR own14 4 wr2 29 1 (.slice ga GL gc) GL cs)) (fun iv _ => GL - natJ iv)
          case atStart => exact ⟨0, rfl, Nat.zero_le _, P14, O14⟩
          case round =>
            clear P14 O14
            obtain ⟨j, rfl, hj, P, O⟩ := hrel
            by_cases hjG : j < GL
            · have hjG' : (j : Int) < GL := by omega
              obtain ⟨cs, o⟩ := O.it
              have kA : Keeps Nowhere wr (wr.alloc (.cells #[.int .u8 119, .int .u8 114, .int .u8 105, .int .u8 116, .int .u8 116, .int .u8 101, .int .u8 110, .int .u8 32, .int .u8 111, .int .u8 118, .int .u8 101, .int .u8 114] 5 (12, 13))) := (Keeps.refl _ _).alloc _
              have oA : OwR own14 4 (wr.alloc (.cells #[.int .u8 119, .int .u8 114, .int .u8 105, .int .u8 116, .int .u8 116, .int .u8 101, .int .u8 110, .int .u8 32, .int .u8 111, .int .u8 118, .int .u8 101, .int .u8 114] 5 (12, 13))) 29 1 (.slice ga GL gc) GL cs := o.sn (I := fun _ => False) (Sn.same kA) (fun x => x)
              obtain ⟨gb, gc2, u0, ee, fz, ce, o2, s2⟩ := oA.putL hjG (.slice (some ⟨wr.heap.size, 0, none⟩) 12 12)
              injection ee with ee1 ee2 ee3
              subst ee1 ee3
              have P2 := Aside.mk ((P.it.quiet kA).sn s2 (fun k e => .inr (.inl e)))
              have O2 : Aside (∃ cs, OwR own14 4 ((wr.alloc (.cells #[.int .u8 119, .int .u8 114, .int .u8 105, .int .u8 116, .int .u8 116, .int .u8 101, .int .u8 110, .int .u8 32, .int .u8 111, .int .u8 118, .int .u8 101, .int .u8 114] 5 (12, 13))).setCell ⟨gb, j, none⟩ (.slice (some ⟨wr.heap.size, 0, none⟩) 12 12)) 29 1 (.slice (some ⟨gb, 0, none⟩) GL gc) GL cs) := ⟨_, o2⟩
              have cv := Lib.run_convert_bytes_const (P := Tryd.prog) wr 29 5 #[.int .u8 119, .int .u8 114, .int .u8 105, .int .u8 116, .int .u8 116, .int .u8 101, .int .u8 110, .int .u8 32, .int .u8 111, .int .u8 118, .int .u8 101, .int .u8 114] 12 12 Tryd.underlying29 Tryd.underlying5
              clear ee2 kA oA o2 s2 o P O
              go_wp2_with fail
              go_roundw
              case rel => exact ⟨j + 1, by go_num, by omega, P2, O2⟩
              case measure => simp [natJ]; omega
            · have hjG' : ¬ (j : Int) < GL := by omega
              have SF : Aside (Calls Tryd.prog 9 #[.slice ka' (X + GL) kc', .slice wa' (X + GL) wc'] wr fun e w' => e = .returned (.bool true) ∧ Keeps Nowhere wr w') := ⟨by
                have h0 := HBX.it.1
                have hl : (XS ++ ms).length ≤ 16777216 := by rw [List.length_append, HGL.it, HBX.it.2.2]; have := HBX.it.2.1; omega
                refine Calls.mono (?_ : Calls _ _ _ _ fun e w' => e = .returned (.bool true) ∧ ∃ m, w' = wr.drewN m) (by rintro e w' ⟨rfl, m, rfl⟩; exact ⟨rfl, (Keeps.refl _ _).drewN m⟩)
                have := same27 P.it.k.rdL (P.it.w.rdl (own' := fun _ => 9) (d' := 9) (fun _ _ => rfl)) h0 h0 hl hl
                simpa using this⟩
              go_wp2_with (first
                | (go_at_call 9; refine SF.it.mono ?_; clear SF; rintro e w16 ⟨rfl, k16⟩)
                | fail)
              go_roundw
              case rel => exact ⟨k + 1, own14, F2, q8, l8, c8, ka', X + GL, kc', wa', wc', XS ++ ms, rfl, rfl, by go_num, hlt, ⟨HF2.it.1, HF2.it.2.1⟩, ⟨FN.it.symm, by rw [List.length_append, HGL.it, HBX.it.2.2]⟩, ⟨P.it.quiet k16⟩⟩
              case measure => simp [natJ]; omega
end Go.Proofs.YtnocalkloinbbaaDoor
