/-
  culvertlaw19.PipeOwn
-/
import Derived.Test.YtpmmjekaefemeaaDoorPqL
import Derived.Deep.DeepCutAuto
import Derived.Deep.RegionWith
namespace Go.Proofs.YtpmmjekaefemeaaDoor
open Go.RowKit
attribute [-go_sem] Builtin.append_

theorem full_take {own : Nat → Nat} {W : World} {k fb B B2 fc : Nat} {ns : List Int} (h : XB own W k (.slice (some ⟨fb, 0, none⟩) B2 fc) (ns ++ [170, 187])) (hB : ns.length = B) : Rd W (.slice (some ⟨fb, 0, none⟩) B fc) ns := by
  have := h.rd.take (k := B) (by rw [List.length_append, hB]; omega)
  rwa [List.take_append_of_le_length (by omega), List.take_of_length_le (by omega)] at this
/-- behind q's step: the document's next in its box -/
def NxQ (A : Nat → Addr) (w0 : World) (p : Nat) (d : Dp) (wb q xb : Nat) (lv : Value) (vs : List Value) (mv : Value) (us : List Value) (Ls : List (List Int)) (m nb : Nat) (v2 : Value) (G2 : Nat) (cut2 : Bool) (W : World) : Prop := ∃ own ALL2 y, ALL2.length ≤ m ∧ Pj A w0 own W p (und d.ALL d.G d.cut) d.G d.cut d d wb q ⟨v2, ALL2, G2, cut2⟩ y xb lv vs mv us Ls Ls [(nb, [v2, .int .i64 G2, .bool cut2])]

/-- the sizes -/
structure Bd (j n : Nat) (d y : Dp) (Ls : List (List Int)) : Prop where
  fd : d.ALL.length ≤ j * 1048576
  fy : y.ALL.length ≤ j * 1048576
  fn : Ls.length = n
  fj : n ≤ j
  fl : ∀ k, (Ls.getD k []).length ≤ 1099511627776
  fg : d.G ≤ d.ALL.length
theorem mul_next {a j : Nat} (h : a ≤ j * 1048576) : a ≤ (j + 1) * 1048576 := Nat.le_trans h (Nat.mul_le_mul_right _ (Nat.le_succ _))
theorem Bd.next {j n : Nat} {d y y2 : Dp} {Ls : List (List Int)} (h : Bd j n d y Ls) (hy : y2.ALL.length ≤ (j + 1) * 1048576) : Bd (j + 1) n d y2 Ls := ⟨mul_next h.fd, hy, h.fn, by have := h.fj; omega, h.fl, h.fg⟩
theorem Bd.push {j n : Nat} {d d2 y y2 : Dp} {Ls : List (List Int)} {T : List Int} (h : Bd j n d y Ls) (hy : y2.ALL.length ≤ (j + 1) * 1048576) (hd : d2.ALL.length ≤ (j + 1) * 1048576) (hg : d2.G ≤ d2.ALL.length) (hT : T.length ≤ 1099511627776) : Bd (j + 1) (n + 1) d2 y2 (Ls ++ [T]) := by
  refine ⟨hd, hy, by rw [List.length_append, h.fn]; rfl, by have := h.fj; omega, fun k => ?_, hg⟩
  rcases Nat.lt_trichotomy k Ls.length with hk | hk | hk
  · rw [getD_app hk]; exact h.fl k
  · subst hk; rw [getD_last]; exact hT
  · rw [List.getD_eq_getElem?_getD, List.getElem?_eq_none (by simp; omega)]; exact Nat.zero_le _
set_option maxRecDepth 20000 in
set_option maxHeartbeats 40000000 in
theorem pipeOwn_walkU {A : Nat → Addr} (s : Value) (zs : List OpV19) (t : Value) (ys : List OpV19) (w : World) (hs : Sents 93 codeVars A w) (hz : Ops19ArgU w s zs) (hy : Ops19ArgU w t ys) :
    Calls Tryd.prog 7 #[s, t] w fun e w' => e = .returned (.bool true) ∧ Below w.heap.size w w' := by
  obtain ⟨hy20, hy⟩ := hy
  have HY := Aside.mk hy
  obtain ⟨a2, c2, rfl, hyc, _, _⟩ := hy
  obtain ⟨M, hM⟩ : ∃ M, ys.length = M := ⟨_, rfl⟩
  have HM := Aside.mk hM
  rw [hM] at hyc hy20 ⊢
  have hMm : (M : Int) ≤ 1048576 := by omega
  clear hM
  obtain ⟨hz20, hz⟩ := hz
  have HZ := Aside.mk hz
  obtain ⟨a, c, rfl, hzc, hcm, _⟩ := hz
  obtain ⟨N, hN⟩ : ∃ N, zs.length = N := ⟨_, rfl⟩
  have HN := Aside.mk hN
  rw [hN] at hzc hz20 ⊢
  have WK := Aside.mk (wakes19 w)
  have HS := Aside.mk hs
  have hNm : (N : Int) ≤ 1048576 := by omega
  clear hs hN
  go_enter Tryd.func7, Tryd.ntmps7
  go_upto_region 3 with (go_at_call 8; refine WK.it.mono ?_; rintro e w1 ⟨rfl, K1⟩)
  clear WK
  have NW := Aside.mk (new19 w1 (fun _ => 0) 10)
  go_upto_region 4 with (first
    | (go_at_call 9; refine NQ.it.mono ?_; clear NQ; rintro e w3 ⟨q, own3, rfl, X3⟩)
    | (go_at_call 9; refine NW.it.mono ?_; clear NW; rintro e w2 ⟨p, own2, rfl, X2⟩; have NQ := Aside.mk (new19 w2 own2 20))
    | fail)
  obtain ⟨wb, hwb⟩ : ∃ wb, w3.heap.size = wb := ⟨_, rfl⟩
  obtain ⟨own4, P4⟩ : ∃ own4, Aside (Pj A w own4 ((w3.alloc (dzc (.slice none 0 0) 0 false)).alloc (dzc (.slice none 0 0) 0 false)) p (und [] 0 false) 0 false ⟨.slice none 0 0, [], 0, false⟩ ⟨.slice none 0 0, [], 0, false⟩ wb q ⟨.slice none 0 0, [], 0, false⟩ ⟨.slice none 0 0, [], 0, false⟩ (wb + 1) (.slice none 0 0) [] (.slice none 0 0) [] [] [] []) := by
    have G1 := (OnG.start HS.it).sn (I := fun _ => False) (Sn.same K1.it) (fun x => x)
    have k3 : Keeps Nowhere w3 ((w3.alloc (dzc (.slice none 0 0) 0 false)).alloc (dzc (.slice none 0 0) 0 false)) := ((Keeps.refl _ _).alloc _).alloc _
    have s3 : Sn (fun _ => False) own3 w3 (give own3 w3.heap.size 8) ((w3.alloc (dzc (.slice none 0 0) 0 false)).alloc (dzc (.slice none 0 0) 0 false)) := Sn.quiet k3 8
    have rn : ∀ (own : Nat → Nat) (j : Nat) (W : World), RdO own j W (.slice none 0 0) [] := fun own j W => ⟨(RowB.nil own 0 _).rd, fun g hg => by simp [Value.ownBlock] at hg⟩
    refine ⟨_, ⟨((G1.sn X2.it.2 (fun x => x)).sn X3.it.2 (fun x => x)).sn s3 (fun x => x), (X2.it.1.sn X3.it.2 (fun x => x) (fun x => x) (fun x => x)).sn s3 (fun x => x) (fun x => x) (fun x => x), rn _ _ _, rn _ _ _, ⟨X3.it.1.sn s3 (fun x => x) (fun x => x) (fun x => x), rn _ _ _, Nat.le_refl _⟩, ⟨?_, give_new (by omega)⟩, ⟨?_, give_new (by omega)⟩, Ls5.nil _ _, fun z hz => (by cases hz), by omega⟩⟩
    · rw [← hwb]
      exact (Cells.new w3 _ [.slice none 0 0, .int .i64 0, .bool false]).later (S := Nowhere) ((Keeps.refl _ _).alloc _) (fun x => x)
    · rw [← hwb]
      have h := Cells.new (w3.alloc (dzc (.slice none 0 0) 0 false)) 28 [.slice none 0 0, .int .i64 0, .bool false]
      rw [World.size_alloc] at h
      exact h
  go_upto_region 5 with fail
  clear hwb X2 X3
  generalize ((w3.alloc (dzc (.slice none 0 0) 0 false)).alloc (dzc (.slice none 0 0) 0 false)) = W4 at P4 ⊢
  go_upto_region 6 with fail
  go_wp2_with fail
  go_loopw [9, 10, 11, 12, 13, 14, 15, 16, 17, 18, 19, 20, 21, 22, 23] (fun lv mv iv _ _ _ _ _ _ _ _ _ _ _ _ wr => ∃ (j n : Nat) (d y : Dp) (la : Option Addr) (lc : Nat) (vs : List Value) (ma : Option Addr) (mc : Nat) (us : List Value) (Ls : List (List Int)) (own : Nat → Nat), lv = .slice la n lc ∧ mv = .slice ma n mc ∧ iv = .int .i64 j ∧ j ≤ max N M ∧ Aside (Bd j n d y Ls) ∧ Aside (Pj A w own wr p (und d.ALL d.G d.cut) d.G d.cut d d wb q y y (wb + 1) (.slice la n lc) vs (.slice ma n mc) us Ls Ls [])) (fun _ _ iv _ _ _ _ _ _ _ _ _ _ _ _ _ => max N M - natOf iv)
  case atStart => exact ⟨0, 0, ⟨.slice none 0 0, [], 0, false⟩, ⟨.slice none 0 0, [], 0, false⟩, none, 0, [], none, 0, [], [], own4, rfl, rfl, rfl, Nat.zero_le _, ⟨by decide, by decide, rfl, by decide, fun k => by simp, by decide⟩, P4⟩
  case round =>
    clear P4
    obtain ⟨j, n, d, y, la, lc, vs, ma, mc, us, Ls, own, rfl, rfl, rfl, hj, HBD, P⟩ := hrel
    by_cases hjn : N ≤ j ∧ M ≤ j
    · obtain ⟨j1, j2⟩ := hjn
      have j1' : ¬ (j : Int) < N := by omega
      have j2' : ¬ (j : Int) < M := by omega
      have h1' : decide (j < N) = false := decide_eq_false (by omega)
      have h2' : decide (j < M) = false := decide_eq_false (by omega)
      have hn20 : Aside (n ≤ 1048576) := ⟨by have := HBD.it.fj; omega⟩
      have hjM : Aside (j ≤ 1048576) := ⟨by omega⟩
      have hnI : (n : Int) ≤ 1048576 := by have := hn20.it; omega
      clear HS HY HZ HN HM
      as_aux_lemma =>
        go_upto_region 33 with fail
        clear h1' h2' j1 j2 j1' j2'
        go_wp2_with fail
        go_loopw [24] (fun iv wx => ∃ (i : Nat), iv = .int .i64 i ∧ i ≤ n ∧ Aside (Pj A w own wx p (und d.ALL d.G d.cut) d.G d.cut d d wb q y y (wb + 1) (.slice la n lc) vs (.slice ma n mc) us Ls Ls [])) (fun iv _ => n - natOf iv)
        case atStart => exact ⟨0, rfl, Nat.zero_le _, P⟩
        case round =>
          clear P
          obtain ⟨i, rfl, hi, P⟩ := hrel
          by_cases hin : i < n
          · have hin' : (i : Int) < n := by omega
            have i0 : (i : Int) ≤ 9223372036854775806 := by omega
            obtain ⟨vi, ei⟩ : ∃ v, vs[i]? = some v := ⟨_, List.getElem?_eq_getElem (by rw [P.it.l.n1, HBD.it.fn]; exact hin)⟩
            obtain ⟨ui, eu⟩ : ∃ v, us[i]? = some v := ⟨_, List.getElem?_eq_getElem (by rw [P.it.l.n2, HBD.it.fn]; exact hin)⟩
            have Pd := Aside.mk (P.it.quiet (Keeps.refl _ _).drew)
            obtain ⟨S, hS⟩ : ∃ S, Aside (strOf (Ls.getD i []) = S) := ⟨_, ⟨rfl⟩⟩
            have s1 := str_run (Pd.it.l.xs i vi ei).rd hS
            have s2 := str_run (Pd.it.l.ws i ui eu).1 hS
            obtain ⟨vb, vc', ev, _, c1⟩ := rowS_cell Pd.it.l.lo ei
            obtain ⟨ub, uc', eu', _, c2'⟩ := rowS_cell Pd.it.l.mo eu
            obtain ⟨va, vk, rfl⟩ := (Pd.it.l.xs i vi ei).rd.shape
            obtain ⟨ua, uk, rfl⟩ := (Pd.it.l.ws i ui eu).1.shape
            injection ev with ev _ _
            injection eu' with eu' _ _
            subst ev eu'
            clear P ei eu
            obtain ⟨ll, hll⟩ : ∃ ll, (Ls.getD i []).length = ll := ⟨_, rfl⟩
            rw [hll] at s1 s2 c1 c2'
            clear hll
            have SS := Aside.mk (show _ ∧ _ ∧ _ ∧ _ from ⟨c1, c2', s1, s2⟩)
            go_upto_region 36 with fail
            go_region_held_law (fun w' => w'.cell? ⟨vb, i, none⟩ = some (.slice va ll vk) ∧ w'.cell? ⟨ub, i, none⟩ = some (.slice ua ll uk) ∧ (convert 26 9 (.slice va ll vk)).run Tryd.prog w' = .ok (.string S) w' ∧ (convert 26 9 (.slice ua ll uk)).run Tryd.prog w' = .ok (.string S) w') (exact SS.it) (fail)
            all_goals
              go_wp2_with fail
              go_roundw
              case rel => exact ⟨i + 1, by go_num, hin, Pd⟩
              case measure => simp [natOf]; omega
          · have hin' : ¬ (i : Int) < n := by omega
            have HU := Aside.mk (Nat.le_trans (und_le (ALL := d.ALL) (G := d.G) (cut := d.cut)) HBD.it.fd)
            have HV := Aside.mk (Nat.le_trans (und_le (ALL := y.ALL) (G := y.G) (cut := y.cut)) HBD.it.fy)
            have Pd := Aside.mk (P.it.quiet (Keeps.refl _ _).drew)
            obtain ⟨S, hS⟩ : ∃ S, Aside (strOf ((und d.ALL d.G d.cut).take 1073741824) = S) := ⟨_, ⟨rfl⟩⟩
            obtain ⟨T, hT⟩ : ∃ T, Aside (strOf ((und y.ALL y.G y.cut).take 1073741824) = T) := ⟨_, ⟨rfl⟩⟩
            clear P
            have FB := Aside.mk (show d.ALL.length ≤ 2199023255551 ∧ y.ALL.length ≤ 2199023255551 ∧ (und d.ALL d.G d.cut).length ≤ 2199023255551 ∧ (und y.ALL y.G y.cut).length ≤ 2199023255551 from by have := HBD.it.fd; have := HBD.it.fy; have := HU.it; have := HV.it; have := hjM.it; omega)
            have hl := Aside.mk HBD.it.fl
            have hg := Aside.mk HBD.it.fg
            have hnL : Aside (Ls.length ≤ 1048576) := ⟨by rw [HBD.it.fn]; exact hn20.it⟩
            have S0 : Aside (wr.drew.cell? ⟨wb, 0, none⟩ = some d.v ∧ wr.drew.cell? ⟨wb, 1, none⟩ = some (.int .i64 d.G) ∧ wr.drew.cell? ⟨wb, 2, none⟩ = some (.bool d.cut) ∧ wr.drew.cell? ⟨wb + 1, 0, none⟩ = some y.v ∧ wr.drew.cell? ⟨wb + 1, 1, none⟩ = some (.int .i64 y.G) ∧ wr.drew.cell? ⟨wb + 1, 2, none⟩ = some (.bool y.cut)) := ⟨Pd.it.cellsW.1, Pd.it.cellsW.2.1, Pd.it.cellsW.2.2.1, Pd.it.cellsX.1, Pd.it.cellsX.2.1, Pd.it.cellsX.2.2.1⟩
            go_upto_region 38 with fail
            go_region_held_law (fun w' => w'.cell? ⟨wb, 0, none⟩ = some d.v ∧ w'.cell? ⟨wb, 1, none⟩ = some (.int .i64 d.G) ∧ w'.cell? ⟨wb, 2, none⟩ = some (.bool d.cut) ∧ w'.cell? ⟨wb + 1, 0, none⟩ = some y.v ∧ w'.cell? ⟨wb + 1, 1, none⟩ = some (.int .i64 y.G) ∧ w'.cell? ⟨wb + 1, 2, none⟩ = some (.bool y.cut)) (first | with_reducible exact S0.it | with_reducible exact Pe.cells (by with_reducible assumption)) (first
              | (go_at_call 22; with_reducible refine (pe_apart Pd hnL.it hl.it hg.it).mono ?_; rintro e w21 ⟨rfl, own21, P21⟩)
              | (go_at_call 14; with_reducible refine (pe_moveQ P23 FB.it.2.2.2).mono ?_; rintro e w24 ⟨ha, hl', hc, own24, L24, ps24, rfl, P24⟩; have t4 := pe_str1 P24 hT)
              | (go_at_call 14; with_reducible refine (pe_moveP P21 FB.it.2.2.1).mono ?_; rintro e w22 ⟨ga, gl, gc, own22, L22, ps22, rfl, P22⟩; have t1 := pe_str1 P22 hS)
              | (go_at_call 23; with_reducible refine (pe_restX P24 FB.it.2.1).mono ?_; rintro e w25 ⟨xa, xc, xl, own25, rfl, P25⟩; have t5 := pe_str1 P25 hT; have t6 := pe_str2 P25 hT)
              | (go_at_call 23; with_reducible refine (pe_restW P22 FB.it.1).mono ?_; rintro e w23 ⟨ra, rc, rl, own23, rfl, P23⟩; have t2 := pe_str1 P23 hS; have t3 := pe_str2 P23 hS)
              | fail)
            all_goals
              go_wp2_with fail
              go_ret
              exact ⟨rfl, P25.it.g.g.bel⟩
    · have i1 : (j : Int) ≤ 9223372036854775806 := by omega
      have jc : Aside (j + 1 ≤ max N M) := ⟨by omega⟩
      have jm : Aside (j ≤ 1048576) := ⟨by omega⟩
      go_upto_region 7 with fail
      go_cut [40] (fun y wx => y = .bool true ∧ wx = wr)
      case first =>
        by_cases h1 : j < N
        · have h1' : decide (j < N) = true := decide_eq_true h1
          go_wp2_with fail
          go_meet
          case rel => exact ⟨rfl, rfl⟩
        · have h1' : decide (j < N) = false := decide_eq_false h1
          have h2' : decide (j < M) = true := decide_eq_true (by omega)
          go_wp2_with fail
          go_meet
          case rel => exact ⟨rfl, rfl⟩
      case rest =>
      obtain ⟨rfl, hwr⟩ := hcut
      subst hwr
      generalize wc = wr at P ⊢
      go_upto_if 46 with fail
      go_cut [12, 13] (fun _ _ wx => ∃ (y2 : Dp) (own2 : Nat → Nat), Aside (y2.ALL.length ≤ (j + 1) * 1048576) ∧ Aside (Pj A w own2 wx p (und d.ALL d.G d.cut) d.G d.cut d d wb q y2 y2 (wb + 1) (.slice la n lc) vs (.slice ma n mc) us Ls Ls []))
      case first =>
        by_cases h1 : j < M
        · have h1' : (j : Int) < M := by omega
          obtain ⟨z, hz⟩ : ∃ z, ys[j]? = some z := ⟨_, List.getElem?_eq_getElem (by rw [HM.it]; exact h1)⟩
          have hzw := HY.it
          rw [HM.it] at hzw
          obtain ⟨b, o, rfl, OC, hrd, hnb⟩ := op_cells (by rw [HM.it]; exact hzw) hz
          clear hz hzw
          obtain ⟨kd, sl, ns, nn⟩ := z
          simp only at OC hrd hnb
          obtain ⟨sa, sc, hsl⟩ := hrd.shape
          subst hsl
          obtain ⟨B, hB⟩ : ∃ B, ns.length = B := ⟨_, rfl⟩
          have HB := Aside.mk hB
          have HRD := Aside.mk hrd
          rw [hB] at OC HRD hnb
          clear hB hrd
          obtain ⟨yv, yA, yG, yc⟩ := y
          obtain ⟨va, vc, hvv⟩ := P.it.tq.slc
          simp only at hvv
          subst hvv
          obtain ⟨nl, hnl⟩ : ∃ nl, yA.length = nl := ⟨_, rfl⟩
          rw [hnl] at P
          have hm : Aside (yA.length + ns.length ≤ 2199023255551 ∧ yA.length + ns.length ≤ (j + 1) * 1048576) := ⟨by have : yA.length ≤ j * 1048576 := HBD.it.fy; have := HB.it; have := jm.it; omega⟩
          have Zd := Aside.mk (P.it.quiet (Keeps.refl _ _).drew)
          have Nd := Aside.mk ((P.it.box (.slice none 0 0) (.int .i64 0) (.bool false)).quiet (Keeps.refl _ _).drew)
          have hnw : wr.heap.size ≠ wb ∧ wr.heap.size ≠ wb + 1 := by have := P.it.cw.1.lt; have := P.it.cx.1.lt; omega
          clear P hnl
          go_upto_region 10 with fail
          go_cut [12, 13] (fun vn vo wx => ∃ (nb : Nat) (qa : Option Addr) (ql qc G2 : Nat) (cut2 : Bool), vn = ptr nb ∧ vo = .bool true ∧ Aside (NxQ A w p d wb q (wb + 1) (.slice la n lc) vs (.slice ma n mc) us Ls ((j + 1) * 1048576) nb (.slice qa ql qc) G2 cut2 wx))
          case first =>
            go_region_held3 (fun w' => w'.cell? ⟨wb + 1, 0, none⟩ = some (.slice va nl vc) ∧ w'.cell? ⟨wb + 1, 1, none⟩ = some (.int .i64 yG) ∧ w'.cell? ⟨wb + 1, 2, none⟩ = some (.bool yc) ∧ w'.cell? ⟨b, o + j * 3, none⟩ = some (.int .i64 kd) ∧ w'.cell? ⟨b, o + j * 3 + 1, none⟩ = some (.slice sa B sc) ∧ w'.cell? ⟨b, o + j * 3 + 2, none⟩ = some (.int .i64 nn)) (first | with_reducible exact Pj.h6d OC (by with_reducible assumption) | with_reducible exact Pj.h6Ad OC (by with_reducible assumption) | with_reducible exact Pj.h6Sd hnw OC (by with_reducible assumption)) (first
              | (go_at_call 10; refine (pj_stepq Zd HRD.it hm.it.1).mono ?_; rintro e w6 ⟨qa, ql, qc, G2, cut2, own6, rfl, X6⟩; obtain ⟨A6, hA6, P6'⟩ := X6.it; have P6 := Aside.mk P6'; clear P6')
              | (go_at_call 10; refine (pj_stepq Nd HRD.it hm.it.1).mono ?_; rintro e w7 ⟨qa, ql, qc, G2, cut2, own6, rfl, X6⟩; obtain ⟨A6, hA6, P7'⟩ := X6.it; have P7 := Aside.mk P7'; clear P7'; obtain ⟨r0, r1, r2, f0, f1, f2⟩ := Pj.res P7)
              | fail)
            all_goals go_wp2_with fail
            all_goals go_meet
            all_goals first
              | exact ⟨_, qa, ql, qc, G2, cut2, rfl, rfl, ⟨_, A6, _, Nat.le_trans hA6 hm.it.2, P6.it.box (.slice qa ql qc) (.int .i64 G2) (.bool cut2)⟩⟩
              | exact ⟨_, qa, ql, qc, G2, cut2, rfl, rfl, ⟨_, A6, _, Nat.le_trans hA6 hm.it.2, P7.it.put hnw⟩⟩
          case rest =>
            obtain ⟨nb, qa, ql, qc, G2, cut2, rfl, rfl, NX⟩ := hcut
            clear Zd Nd hnw
            obtain ⟨own3, A3, y3, hA3, Z3⟩ := NX.it
            have Z3 := Aside.mk Z3
            clear NX
            obtain ⟨m0, m1, m2, _⟩ := Pj.res Z3
            obtain ⟨u0, u1, u2, u3, u4, u5⟩ := Z3.it.cellsX
            have W3 := Aside.mk Z3.it.writeX
            have HA3 := Aside.mk hA3
            clear Z3 hA3
            go_wp2_with fail
            go_meet
            case rel => exact ⟨_, own3, HA3, W3⟩
        · have h1' : ¬ (j : Int) < M := by omega
          go_wp2_with fail
          go_meet
          case rel => exact ⟨y, own, ⟨mul_next HBD.it.fy⟩, P⟩
      case rest =>
      obtain ⟨y2, own2, HY2, P2⟩ := hcut
      clear P
      generalize wc = wr at P2 ⊢
      by_cases h1 : j < N
      · have h1' : (j : Int) < N := by omega
        obtain ⟨z, hz⟩ : ∃ z, zs[j]? = some z := ⟨_, List.getElem?_eq_getElem (by rw [HN.it]; exact h1)⟩
        have hzw := HZ.it
        rw [HN.it] at hzw
        obtain ⟨b, o, rfl, OC, hrd, hnb⟩ := op_cells (by rw [HN.it]; exact hzw) hz
        clear hz hzw
        obtain ⟨kd, sl, ns, nn⟩ := z
        simp only at OC hrd hnb
        obtain ⟨sa, sc, hsl⟩ := hrd.shape
        subst hsl
        obtain ⟨B, hB⟩ : ∃ B, ns.length = B := ⟨_, rfl⟩
        have HB := Aside.mk hB
        have HRD := Aside.mk hrd
        rw [hB] at OC HRD hnb
        clear hB hrd
        obtain ⟨dv, dA, dG, dc⟩ := d
        obtain ⟨va, vc, hvv⟩ := P2.it.dr.shape
        simp only at hvv
        subst hvv
        obtain ⟨nl, hnl⟩ : ∃ nl, dA.length = nl := ⟨_, rfl⟩
        have HNL := Aside.mk hnl
        rw [hnl] at P2
        have HG : Aside (dG ≤ dA.length) := ⟨HBD.it.fg⟩
        have hnm : Aside (nl ≤ j * 1048576) := ⟨by rw [← hnl]; exact HBD.it.fd⟩
        have hn20 : Aside (n ≤ 1048576) := ⟨by have := HBD.it.fj; have := jm.it; omega⟩
        have z0 := P2.it.g.cell OC.it.1
        have z1 := P2.it.g.cell OC.it.2.1
        have z2 := P2.it.g.cell OC.it.2.2
        have K := Aside.mk (P2.it.op kd (.slice sa B sc) nn)
        clear P2 hnl
        go_upto_region 16 with fail
        clear z0 z1 z2
        generalize give own2 wr.heap.size 8 = own5 at K
        generalize (wr.alloc (opc kd (.slice sa B sc) nn)) = W5 at K ⊢
        generalize wr.heap.size = ob at K ⊢
        obtain ⟨o0, o1, o2⟩ := K.it.cells
        obtain ⟨u0, u1, u2, _⟩ := K.it.j.cellsW
        by_cases hk : kd = 1
        · subst hk
          have CP := Aside.mk (copied19 (HRD.it.later K.it.j.g.g.bel) (by have := HB.it; omega))
          rw [HB.it] at CP
          obtain ⟨B2, hB2v⟩ : ∃ B2, Aside (B2 = B + 2) := ⟨_, ⟨rfl⟩⟩
          have hB2 : Aside ((ns ++ [170, 187]).length = B2) := ⟨by rw [List.length_append, HB.it, hB2v.it]; rfl⟩
          go_upto_region 18 with (first
            | (go_at_call 12; refine CP.it.mono ?_; clear CP o0 o1 o2 u0 u1 u2; rintro e w6 ⟨ca, cc, rfl, X6⟩)
            | (at_builtin; refine wpList_appendB rfl (.tmp 73) (.tmp 74) rfl W5.heap.size (.slice ca B cc) (.slice (some ⟨w6.heap.size, 0, none⟩) 2 2) ns [170, 187] (X6.it.row.later (((Keeps.refl Nowhere w6).alloc _).bel)) (rd_new w6 [170, 187] 2 rfl) (by have := HB.it; simp only [List.length_cons, List.length_nil]; omega) (Nat.le_trans X6.it.k.size (by rw [World.size_alloc]; omega)) rfl rfl ?_; intro v7 w7 o7 k7; obtain ⟨fa, fc, hv7⟩ := OwnB.shape o7.it; rw [hB2.it] at hv7; subst hv7)
            | fail)
          have K7k : Aside (Keeps Nowhere W5 w7) := ⟨keeps_from (X6.it.k.alloc _) k7.it⟩
          have K7 := Aside.mk (K.it.step K7k.it (100 + 2 * n))
          have XB7 := Aside.mk (xb_of ((Nw.mk o7.it K7k.it).rowB own5 (100 + 2 * n)))
          generalize give own5 W5.heap.size (100 + 2 * n) = own7 at K7 XB7
          clear X6 o7 k7 K K7k
          obtain ⟨fb, fc', hfa, _⟩ := XB7.it.cell (j := B) (y := 170) (by rw [List.getElem?_append_right (by rw [HB.it]; exact Nat.le_refl _), HB.it, Nat.sub_self]; rfl)
          injection hfa with hfa1 hfa2 hfa3
          subst hfa1
          clear hfa2 hfa3
          have hfc : (B2 : Int) ≤ fc := by
            obtain ⟨_, c', e, h⟩ := XB7.it.shape
            rw [hB2.it] at e h
            injection e with _ _ e
            omega
          have hBi : (B : Int) ≤ 1048576 := by omega
          have bF1 : (B : Int) < (B2 : Int) := by have := hB2v.it; omega
          have bF2 : (B : Int) + 1 < (B2 : Int) := by have := hB2v.it; omega
          have bT : ((B : Int) + 1).toNat = B + 1 := by omega
          have bG1 : (0 : Int) ≤ (B : Int) + 1 := by omega
          have bI : (B : Int) ≤ 9223372036854775806 := by omega
          have bN1 : B + 1 < B2 := by have := hB2v.it; omega
          have bN2 : ¬ (B2 : Int) ≤ (B : Int) + 1 := by omega
          have bN3 : ((B + 1 : Nat) : Int) < (B2 : Int) := by omega
          have bW : IntKind.i64.wrap ((B : Int) + 1) = (B : Int) + 1 := by rw [IntKind.wrap_i64]; omega
          have bD : ((0 : Int) ≤ (B : Int) + 1 ∧ (B : Int) + 1 < (B2 : Int)) = True := by simp only [eq_iff_iff, iff_true]; omega
          have hBc : (B : Int) ≤ fc := by omega
          obtain ⟨o0, o1, o2⟩ := K7.it.cells
          have RD7 := Aside.mk (full_take XB7.it HB.it)
          cases dc with
          | true =>
          as_aux_lemma =>
            have PC := Aside.mk (put_cut19 K7.it.j.tp (.slice (some ⟨fb, 0, none⟩) B fc) _ (K7.it.j.g.sents.cell 26 _ rfl))
            go_upto_region 19 with (first
              | (go_at_call 11; refine PC.it.mono ?_; clear PC o0 o1 o2; rintro e w8 ⟨rfl, k8⟩)
              | fail)
            have K8 := Aside.mk (K7.it.quiet k8.it)
            have XB8 := Aside.mk (XB7.it.sn (I := fun _ => False) (Sn.same k8.it) (fun x => x))
            clear K7 XB7 RD7 k8
            obtain ⟨o0, o1, o2⟩ := K8.it.cells
            obtain ⟨u0, u1, u2, _⟩ := K8.it.j.cellsW
            have DP := Aside.mk (dput_cut (w := w8) (ALL := dA) (G := dG) (.slice va nl vc) (.slice sa B sc) ⟨va, vc, by rw [HNL.it]⟩)
            go_upto_region 20 with (first
              | (go_at_call 19; refine DP.it.mono ?_; clear DP o0 o1 o2 u0 u1 u2; rintro e w9 ⟨rfl, k9⟩)
              | fail)
            have K9a := Aside.mk ((K8.it.step k9.it 14).box (.slice va nl vc) (.int .i64 dG) (.bool true))
            have XB9 := Aside.mk ((XB8.it.sn (I := fun _ => False) (Sn.quiet k9.it 14) (fun x => x)).sn (I := fun _ => False) (Sn.quiet ((Keeps.refl _ _).alloc (dzc (.slice va nl vc) dG true)) 8) (fun x => x))
            generalize give (give own7 w8.heap.size 14) w9.heap.size 8 = own9 at K9a XB9
            generalize (w9.alloc (dzc (.slice va nl vc) dG true)) = W9 at K9a XB9 ⊢
            generalize w9.heap.size = nb at K9a ⊢
            have K9 := Aside.mk (show Pk A w own9 W9 p (und dA dG true) dG true ⟨.slice va nl vc, dA, dG, true⟩ ⟨.slice va nl vc, dA, dG, true⟩ wb q y2 (wb + 1) (.slice la n lc) vs (.slice ma n mc) us Ls Ls [(nb, [.slice va nl vc, .int .i64 dG, .bool true])] ob 1 (.slice sa B sc) nn from K9a.it)
            clear K8 XB8 k9 K9a

            obtain ⟨S, hS⟩ : ∃ S, Aside (strOf ns = S) := ⟨_, ⟨rfl⟩⟩
            have Jd := Aside.mk (K9.it.j.quiet (Keeps.refl _ _).drew)
            have Xd := Aside.mk (XB9.it.sn (I := fun _ => False) (Sn.same (Keeps.refl _ W9).drew) (fun x => x))
            have CD := Aside.mk (code_of Jd.it.g.sents (Coded.mk 26 27 (by decide) (by decide) rfl))
            have SS : Aside (W9.drew.cell? ⟨ob, 1, none⟩ = some (.slice sa B sc) ∧ (convert 26 9 (.slice (some ⟨fb, 0, none⟩) B fc)).run Tryd.prog W9.drew = .ok (.string S) W9.drew ∧ (convert 26 9 (.slice sa B sc)).run Tryd.prog W9.drew = .ok (.string S) W9.drew ∧ W9.drew.cell? ⟨fb, B, none⟩ = some (.int .u8 170) ∧ W9.drew.cell? ⟨fb, B + 1, none⟩ = some (.int .u8 187)) := ⟨by
              refine ⟨(K9.it.quiet (Keeps.refl _ _).drew).cells.2.1, str_run (full_take Xd.it HB.it) hS, str_run (HRD.it.later Jd.it.g.g.bel) hS, ?_, ?_⟩
              · obtain ⟨b', c', e, h⟩ := XB.cell Xd.it (j := B) (y := 170) (by rw [List.getElem?_append_right (by rw [HB.it]; exact Nat.le_refl _), HB.it, Nat.sub_self]; rfl)
                injection e with e _ _
                injection e with e
                injection e with e
                subst e
                exact h
              · obtain ⟨b', c', e, h⟩ := XB.cell Xd.it (j := B + 1) (y := 187) (by rw [List.getElem?_append_right (by rw [HB.it]; omega), HB.it, Nat.add_sub_cancel_left]; rfl)
                injection e with e _ _
                injection e with e
                injection e with e
                subst e
                exact h⟩
            have eN : ((0 : Int) != 0) = false := by simp
            have eC : ((27 : Int) != 27) = false := by simp
            go_cut [133] (fun yv wx => yv = .bool false ∧ wx = W9.drew)
            case first =>
              go_region_held_law (fun w' => w'.cell? ⟨ob, 1, none⟩ = some (.slice sa B sc) ∧ (convert 26 9 (.slice (some ⟨fb, 0, none⟩) B fc)).run Tryd.prog w' = .ok (.string S) w' ∧ (convert 26 9 (.slice sa B sc)).run Tryd.prog w' = .ok (.string S) w' ∧ w'.cell? ⟨fb, B, none⟩ = some (.int .u8 170) ∧ w'.cell? ⟨fb, B + 1, none⟩ = some (.int .u8 187)) (exact SS.it) (first
                | (go_at_call 18; refine CD.it.mono ?_; rintro e w10 ⟨rfl, hw10⟩; subst hw10)
                | fail)
              all_goals go_wp2_with fail
              all_goals go_meet
              all_goals exact ⟨rfl, rfl⟩
            case rest =>
            obtain ⟨rfl, hwc⟩ := hcut
            subst hwc
            clear SS CD K9 XB9
            generalize W9.drew = Wd at Jd Xd ⊢
            obtain ⟨m0, m1, m2, _⟩ := Pj.res Jd
            obtain ⟨u0, u1, u2, u3, u4, u5⟩ := Jd.it.cellsW
            have J10 := Aside.mk Jd.it.writeW
            have XB10 := Aside.mk (Xd.it.sn (box_sn (c0 := (.slice va nl vc)) (c1 := .int .i64 dG) (c2 := .bool true) Jd.it.cw) (by omega))
            clear Jd Xd
            go_upto_region 23 with fail
            clear m0 m1 m2 u0 u1 u2 u3 u4 u5
            generalize (((Wd.setCell ⟨wb, 0, none⟩ (.slice va nl vc)).setCell ⟨wb, 1, none⟩ (.int .i64 dG)).setCell ⟨wb, 2, none⟩ (.bool true)) = W10 at J10 XB10 ⊢
            have WB := Aside.mk (wipeB XB10.it 92 (by rw [hB2.it]; have := hB2v.it; omega))
            rw [hB2.it] at WB
            go_upto_region 24 with (first
              | (go_at_call 20; refine WB.it.mono ?_; clear WB; rintro e w11 ⟨rfl, own11, X11, S11⟩)
              | fail)
            obtain ⟨Q, hQ, X11⟩ : ∃ Q : List Int, Aside (Q.length = B2) ∧ Aside (XB own11 w11 n (.slice (some ⟨fb, 0, none⟩) B2 fc) Q) := ⟨_, ⟨List.length_replicate⟩, X11⟩
            have J11 := Aside.mk (J10.it.sn S11.it (by omega) (by omega) (fun k e => by omega) (fun k e => by omega) (by omega) (by omega) (by omega) (fun r hr => by have := HBD.it.fn; omega))
            clear J10 XB10 S11
            obtain ⟨a12, c12, w12, own12, run12, J12⟩ := J11.it.pushL (v := .slice (some ⟨fb, 0, none⟩) B2 fc) (l := Q) (by rw [HBD.it.fn]; exact X11.it) (by rw [HBD.it.fn]; exact hn20.it)
            rw [HBD.it.fn] at run12 J12
            clear J11 X11
            go_upto_region 25 with fail
            clear run12
            have CP := Aside.mk (copied19 J12.it.2.rd (by rw [hQ.it]; have := hB2v.it; omega))
            rw [hQ.it] at CP
            go_wp2_with (first
              | (go_at_call 12; refine CP.it.mono ?_; clear CP; rintro e w13 ⟨da, dcc, rfl, X13⟩; have J13 := Aside.mk (J12.it.1.step X13.it.k 7); have R13 := Aside.mk (X13.it.rowB own12 7).rdO; obtain ⟨a14, c14, w14, own14, run14, J14⟩ := J13.it.pushM R13.it (by rw [HBD.it.fn]; exact hn20.it); rw [HBD.it.fn] at run14 J14)
              | fail)
            go_roundw
            case rel => exact ⟨j + 1, n + 1, ⟨(.slice va nl vc), dA, dG, true⟩, y2, a12, c12, _, a14, c14, _, Ls ++ [Q], own14, rfl, rfl, by go_num, jc.it, ⟨HBD.it.push HY2.it (mul_next HBD.it.fd) HG.it (by rw [hQ.it]; have := hB2v.it; omega)⟩, J14⟩
            case measure => have := jc.it; simp only [natOf]; omega

          | false =>
          as_aux_lemma =>
            have PC := Aside.mk (put19 K7.it.j.tp RD7.it (by have := und_le (ALL := dA) (G := dG) (cut := false); have := HNL.it; have := hnm.it; have := jm.it; have := HB.it; omega))
            rw [HB.it] at PC
            go_upto_region 19 with (first
              | (go_at_call 11; refine PC.it.mono ?_; clear PC o0 o1 o2; rintro e w8 ⟨own8, rfl, X8⟩)
              | fail)
            have K8 := Aside.mk (K7.it.prog X8.it.1 (X8.it.2.mono (fun _ e => .inl e)))
            have XB8 := Aside.mk (XB7.it.sn X8.it.2 (by omega))
            clear K7 XB7 RD7 X8
            obtain ⟨o0, o1, o2⟩ := K8.it.cells
            obtain ⟨u0, u1, u2, _⟩ := K8.it.j.cellsW
            have hAB : Aside (dA.length + ns.length ≤ 2199023255551) := ⟨by have := HNL.it; have := hnm.it; have := jm.it; have := HB.it; omega⟩
            have HNB : Aside ((dA ++ ns).length = nl + B) := ⟨by rw [List.length_append, HNL.it, HB.it]⟩
            have DP := Aside.mk (dput (w := w8) (G := dG) (.slice va nl vc) (.slice sa B sc) K8.it.j.dr.1 (HRD.it.later K8.it.j.g.g.bel) hAB.it)
            rw [HB.it, HNB.it] at DP
            go_upto_region 20 with (first
              | (go_at_call 19; refine DP.it.mono ?_; clear DP o0 o1 o2 u0 u1 u2; rintro e w9 ⟨xa, xc, rfl, X9⟩)
              | fail)
            obtain ⟨NB, hNB⟩ : ∃ NB, Aside (nl + B = NB) := ⟨_, ⟨rfl⟩⟩
            rw [hNB.it] at X9 ⊢
            have K9a := Aside.mk ((K8.it.step X9.it.k 14).box (.slice xa NB xc) (.int .i64 dG) (.bool false))
            have R9 := Aside.mk ((X9.it.rowB own8 14).rdO.sn (I := fun _ => False) (Sn.quiet ((Keeps.refl _ _).alloc (dzc (.slice xa NB xc) dG false)) 8) (fun x => x))
            have XB9 := Aside.mk ((XB8.it.sn (I := fun _ => False) (Sn.quiet X9.it.k 14) (fun x => x)).sn (I := fun _ => False) (Sn.quiet ((Keeps.refl _ _).alloc (dzc (.slice xa NB xc) dG false)) 8) (fun x => x))
            generalize give (give own8 w8.heap.size 14) w9.heap.size 8 = own9 at K9a XB9 R9
            generalize (w9.alloc (dzc (.slice xa NB xc) dG false)) = W9 at K9a XB9 R9 ⊢
            generalize w9.heap.size = nb at K9a ⊢
            have K9 : Aside (Pk A w own9 W9 p (und (dA ++ ns) dG false) dG false ⟨.slice xa NB xc, dA ++ ns, dG, false⟩ ⟨.slice va nl vc, dA, dG, false⟩ wb q y2 (wb + 1) (.slice la n lc) vs (.slice ma n mc) us Ls Ls [(nb, [.slice xa NB xc, .int .i64 dG, .bool false])] ob 1 (.slice sa B sc) nn) := ⟨by
              rw [← und_put ns HG.it]
              exact ⟨K9a.it.j.pend (e := ⟨.slice xa NB xc, dA ++ ns, dG, false⟩) R9.it, K9a.it.o⟩⟩
            clear K8 XB8 X9 K9a R9

            obtain ⟨S, hS⟩ : ∃ S, Aside (strOf ns = S) := ⟨_, ⟨rfl⟩⟩
            have Jd := Aside.mk (K9.it.j.quiet (Keeps.refl _ _).drew)
            have Xd := Aside.mk (XB9.it.sn (I := fun _ => False) (Sn.same (Keeps.refl _ W9).drew) (fun x => x))
            have CD := Aside.mk (code_of Jd.it.g.sents Coded.none)
            have SS : Aside (W9.drew.cell? ⟨ob, 1, none⟩ = some (.slice sa B sc) ∧ (convert 26 9 (.slice (some ⟨fb, 0, none⟩) B fc)).run Tryd.prog W9.drew = .ok (.string S) W9.drew ∧ (convert 26 9 (.slice sa B sc)).run Tryd.prog W9.drew = .ok (.string S) W9.drew ∧ W9.drew.cell? ⟨fb, B, none⟩ = some (.int .u8 170) ∧ W9.drew.cell? ⟨fb, B + 1, none⟩ = some (.int .u8 187)) := ⟨by
              refine ⟨(K9.it.quiet (Keeps.refl _ _).drew).cells.2.1, str_run (full_take Xd.it HB.it) hS, str_run (HRD.it.later Jd.it.g.g.bel) hS, ?_, ?_⟩
              · obtain ⟨b', c', e, h⟩ := XB.cell Xd.it (j := B) (y := 170) (by rw [List.getElem?_append_right (by rw [HB.it]; exact Nat.le_refl _), HB.it, Nat.sub_self]; rfl)
                injection e with e _ _
                injection e with e
                injection e with e
                subst e
                exact h
              · obtain ⟨b', c', e, h⟩ := XB.cell Xd.it (j := B + 1) (y := 187) (by rw [List.getElem?_append_right (by rw [HB.it]; omega), HB.it, Nat.add_sub_cancel_left]; rfl)
                injection e with e _ _
                injection e with e
                injection e with e
                subst e
                exact h⟩
            have eN : ((B : Int) != B) = false := by simp
            have eC : ((0 : Int) != 0) = false := by simp
            go_cut [133] (fun yv wx => yv = .bool false ∧ wx = W9.drew)
            case first =>
              go_region_held_law (fun w' => w'.cell? ⟨ob, 1, none⟩ = some (.slice sa B sc) ∧ (convert 26 9 (.slice (some ⟨fb, 0, none⟩) B fc)).run Tryd.prog w' = .ok (.string S) w' ∧ (convert 26 9 (.slice sa B sc)).run Tryd.prog w' = .ok (.string S) w' ∧ w'.cell? ⟨fb, B, none⟩ = some (.int .u8 170) ∧ w'.cell? ⟨fb, B + 1, none⟩ = some (.int .u8 187)) (exact SS.it) (first
                | (go_at_call 18; refine CD.it.mono ?_; rintro e w10 ⟨rfl, hw10⟩; subst hw10)
                | fail)
              all_goals go_wp2_with fail
              all_goals go_meet
              all_goals exact ⟨rfl, rfl⟩
            case rest =>
            obtain ⟨rfl, hwc⟩ := hcut
            subst hwc
            clear SS CD K9 XB9
            generalize W9.drew = Wd at Jd Xd ⊢
            obtain ⟨m0, m1, m2, _⟩ := Pj.res Jd
            obtain ⟨u0, u1, u2, u3, u4, u5⟩ := Jd.it.cellsW
            have J10 := Aside.mk Jd.it.writeW
            have XB10 := Aside.mk (Xd.it.sn (box_sn (c0 := (.slice xa NB xc)) (c1 := .int .i64 dG) (c2 := .bool false) Jd.it.cw) (by omega))
            clear Jd Xd
            go_upto_region 23 with fail
            clear m0 m1 m2 u0 u1 u2 u3 u4 u5
            generalize (((Wd.setCell ⟨wb, 0, none⟩ (.slice xa NB xc)).setCell ⟨wb, 1, none⟩ (.int .i64 dG)).setCell ⟨wb, 2, none⟩ (.bool false)) = W10 at J10 XB10 ⊢
            have WB := Aside.mk (wipeB XB10.it 92 (by rw [hB2.it]; have := hB2v.it; omega))
            rw [hB2.it] at WB
            go_upto_region 24 with (first
              | (go_at_call 20; refine WB.it.mono ?_; clear WB; rintro e w11 ⟨rfl, own11, X11, S11⟩)
              | fail)
            obtain ⟨Q, hQ, X11⟩ : ∃ Q : List Int, Aside (Q.length = B2) ∧ Aside (XB own11 w11 n (.slice (some ⟨fb, 0, none⟩) B2 fc) Q) := ⟨_, ⟨List.length_replicate⟩, X11⟩
            have J11 := Aside.mk (J10.it.sn S11.it (by omega) (by omega) (fun k e => by omega) (fun k e => by omega) (by omega) (by omega) (by omega) (fun r hr => by have := HBD.it.fn; omega))
            clear J10 XB10 S11
            obtain ⟨a12, c12, w12, own12, run12, J12⟩ := J11.it.pushL (v := .slice (some ⟨fb, 0, none⟩) B2 fc) (l := Q) (by rw [HBD.it.fn]; exact X11.it) (by rw [HBD.it.fn]; exact hn20.it)
            rw [HBD.it.fn] at run12 J12
            clear J11 X11
            go_upto_region 25 with fail
            clear run12
            have CP := Aside.mk (copied19 J12.it.2.rd (by rw [hQ.it]; have := hB2v.it; omega))
            rw [hQ.it] at CP
            go_wp2_with (first
              | (go_at_call 12; refine CP.it.mono ?_; clear CP; rintro e w13 ⟨da, dcc, rfl, X13⟩; have J13 := Aside.mk (J12.it.1.step X13.it.k 7); have R13 := Aside.mk (X13.it.rowB own12 7).rdO; obtain ⟨a14, c14, w14, own14, run14, J14⟩ := J13.it.pushM R13.it (by rw [HBD.it.fn]; exact hn20.it); rw [HBD.it.fn] at run14 J14)
              | fail)
            go_roundw
            case rel => exact ⟨j + 1, n + 1, ⟨(.slice xa NB xc), (dA ++ ns), dG, false⟩, y2, a12, c12, _, a14, c14, _, Ls ++ [Q], own14, rfl, rfl, by go_num, jc.it, ⟨HBD.it.push HY2.it (by rw [List.length_append, Nat.succ_mul]; exact Nat.add_le_add HBD.it.fd (by rw [HB.it]; exact hnb)) (by show dG ≤ (dA ++ ns).length; rw [List.length_append]; have := HG.it; omega) (by rw [hQ.it]; have := hB2v.it; omega)⟩, J14⟩
            case measure => have := jc.it; simp only [natOf]; omega
        · have ek : (kd == 1) = false := beq_eq_false_iff_ne.2 hk
          have DM := Aside.mk (dmove (w := W5) (G := dG) (.slice va nl vc) K.it.j.dr.1 HG.it (by rw [HNL.it]; have := hnm.it; have := jm.it; omega) dc nn)
          have HUL : Aside ((und dA dG dc).length ≤ 2199023255551) := ⟨by have := und_le (ALL := dA) (G := dG) (cut := dc); have := HNL.it; have := hnm.it; have := jm.it; omega⟩
          have hUG := und_len (ALL := dA) (G := dG) (cut := dc)
          obtain ⟨T, hT⟩ : ∃ T, (und dA dG dc).take nn.toNat = T := ⟨_, rfl⟩
          have HT := Aside.mk hT
          have hTl : Aside (dG + T.length ≤ dA.length ∧ T.length ≤ 1099511627776) := ⟨by have := congrArg List.length hT; rw [List.length_take] at this; have := HG.it; have := HNL.it; have := hnm.it; have := jm.it; omega⟩
          obtain ⟨S, hS⟩ : ∃ S, Aside (strOf T = S) := ⟨_, ⟨rfl⟩⟩
          rw [hT] at DM
          obtain ⟨G2, hG2⟩ : ∃ G2, Aside (dG + T.length = G2) := ⟨_, ⟨rfl⟩⟩
          rw [hG2.it] at DM
          have UD : Aside ((und dA dG dc).drop nn.toNat = und dA G2 dc ∧ (dG + T.length) % 18446744073709551616 = G2) := ⟨by rw [und_drop, hT, hG2.it], by rw [hG2.it]; have := hG2.it; have := hTl.it; have := HNL.it; have := hnm.it; have := jm.it; omega⟩
          clear hT hUG hk
          go_upto_region 27 with (first
            | (go_at_call 21; refine DM.it.mono ?_; clear DM o0 o1 o2 u0 u1 u2; rintro e w6 ⟨xa, xc, xl, rfl, X6⟩)
            | fail)
          have K6 := Aside.mk ((K.it.step X6.it.k 30).box (.slice va nl vc) (.int .i64 G2) (.bool dc))
          have D6 := Aside.mk ((X6.it.rowB own5 30).rdO.sn (I := fun _ => False) (Sn.quiet ((Keeps.refl _ _).alloc (dzc (.slice va nl vc) G2 dc)) 8) (fun x => x))
          generalize give (give own5 W5.heap.size 30) w6.heap.size 8 = own6 at K6 D6
          generalize (w6.alloc (dzc (.slice va nl vc) G2 dc)) = W6 at K6 D6 ⊢
          generalize w6.heap.size = nb at K6 ⊢
          clear K X6
          obtain ⟨o0, o1, o2⟩ := K6.it.cells
          have MV := Aside.mk (move19 K6.it.j.tp nn HUL.it (100 + 2 * n))
          go_upto_region 28 with (first
            | (go_at_call 14; refine MV.it.mono ?_; clear MV o0 o1 o2; rintro e w7 ⟨ga, gl, gc, own7, rfl, X7⟩)
            | fail)
          obtain ⟨x1, _, x3, x4⟩ := X7.it
          rw [HT.it] at x1 x3
          rw [UD.it.1, UD.it.2] at x3
          have K7 := Aside.mk (K6.it.prog x3 x4)
          have D7 := Aside.mk (D6.it.sn x4 (by show ¬ (_ ∨ _ ∨ _); omega))
          have XB7 := Aside.mk (xb_of x1)
          have sc1 := str_run x1.rd hS
          have sc2 := str_run D7.it.1 hS
          clear x1 x3 x4 X7 K6 D6
          have J7 := Aside.mk (K7.it.j.pend (e := ⟨.slice va nl vc, dA, G2, dc⟩) K7.it.j.dr)
          clear K7 D7
          obtain ⟨m0, m1, m2, _⟩ := Pj.res J7
          obtain ⟨u0, u1, u2, u3, u4, u5⟩ := J7.it.cellsW
          have J8 := Aside.mk J7.it.writeW
          have XB8 := Aside.mk (XB7.it.sn (box_sn (c0 := .slice va nl vc) (c1 := .int .i64 G2) (c2 := .bool dc) J7.it.cw) (by omega))
          clear J7 XB7
          go_upto_region 31 with fail
          clear m0 m1 m2 u0 u1 u2 u3 u4 u5 sc1 sc2
          generalize (((w7.setCell ⟨wb, 0, none⟩ (.slice va nl vc)).setCell ⟨wb, 1, none⟩ (.int .i64 G2)).setCell ⟨wb, 2, none⟩ (.bool dc)) = W8 at J8 XB8 ⊢
          obtain ⟨a9, c9, w9, own9, run9, J9⟩ := J8.it.pushL (v := .slice ga gl gc) (l := T) (by rw [HBD.it.fn]; exact XB8.it) (by rw [HBD.it.fn]; exact hn20.it)
          rw [HBD.it.fn] at run9 J9
          clear J8 XB8
          go_upto_region 32 with fail
          clear run9
          have CP := Aside.mk (copied19 J9.it.2.rd (by have := hTl.it; omega))
          obtain ⟨tl, htl⟩ : ∃ tl, T.length = tl := ⟨_, rfl⟩
          rw [htl] at CP
          clear htl
          go_wp2_with (first
            | (go_at_call 12; refine CP.it.mono ?_; clear CP; rintro e w10 ⟨ca, cc, rfl, X10⟩; have J10 := Aside.mk (J9.it.1.step X10.it.k 7); have R10 := Aside.mk (X10.it.rowB own9 7).rdO; obtain ⟨a11, c11, w11, own11, run11, J11⟩ := J10.it.pushM R10.it (by rw [HBD.it.fn]; exact hn20.it); rw [HBD.it.fn] at run11 J11)
            | fail)
          go_roundw
          case rel => exact ⟨j + 1, n + 1, ⟨.slice va nl vc, dA, G2, dc⟩, y2, a9, c9, _, a11, c11, _, Ls ++ [T], own11, rfl, rfl, by go_num, jc.it, ⟨HBD.it.push HY2.it (mul_next HBD.it.fd) (by show G2 ≤ dA.length; have := hG2.it; have := hTl.it; omega) hTl.it.2⟩, J11⟩
          case measure => have := jc.it; simp only [natOf]; omega
      · have h1' : ¬ (j : Int) < N := by omega
        have h1'' : (N : Int) ≤ j := by omega
        go_wp2_with fail
        go_roundw
        case rel => exact ⟨j + 1, n, d, y2, la, lc, vs, ma, mc, us, Ls, own2, rfl, rfl, by go_num, jc.it, ⟨HBD.it.next HY2.it⟩, P2⟩
        case measure => have := jc.it; simp only [natOf]; omega
end Go.Proofs.YtpmmjekaefemeaaDoor
