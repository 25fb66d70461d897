/-
  LaneDrains
-/
import Derived.Test.YtccbhmmonaaikaaDoorLnX
import Derived.Test.YtccbhmmonaaikaaDoorOpenOp
import Derived.Test.YtccbhmmonaaikaaDoorDrP
import Derived.Deep.DeepCutAuto
namespace Go.Proofs.YtccbhmmonaaikaaDoor
open Go.RowKit

variable {A : Nat → Addr} {w w' w0 : World} {own own' : Nat → Nat} {p m : Nat} {L T : List Tk} {I : Nat → Prop} {vt : Value}

/-- the lane, and the tickets that it took -/
structure Dx (A : Nat → Addr) (w0 : World) (p : Nat) (L : List Tk) (m : Nat) (vt : Value) (T : List Tk) (own : Nat → Nat) (W : World) : Prop where
  l : Ln A w0 own W p L m
  t : W.ownsRow 0 30 3 vt T.length (flatT T)
  o : ∀ k, vt.ownBlock = some k → own k = 9
theorem Dx.sn {L' : List Tk} {m' : Nat} (h : Aside (Dx A w0 p L m vt T own w)) (s : Sn (In4 1) own w own' w') (l : Ln A w0 own' w' p L' m') : Aside (Dx A w0 p L' m' vt T own' w') :=
  ⟨⟨l, owns_later h.it.t s.keeps (fun k hk e => by rw [h.it.o k hk] at e; have := e.2; omega), fun k hk => (s.agree k (owns_lt h.it.t k hk)).trans (h.it.o k hk)⟩⟩
theorem Dx.quiet (h : Aside (Dx A w0 p L m vt T own w)) (k : Keeps Nowhere w w') : Aside (Dx A w0 p L m vt T own w') := Dx.sn h (Sn.same k) (h.it.l.quiet k)
theorem Dx.rd (h : Aside (Dx A w0 p L m vt T own w)) : RdT w vt T := owns_readsK h.it.t
/-- one ticket more at the end of those that it took -/
theorem Dx.took {v' : Value} {t : Tk} (h : Aside (Dx A w0 p L m vt T own w)) (o' : w'.ownsRow 0 30 3 v' (T.length + 1) (flatT T ++ tcells t)) (k' : Keeps (fun b => vt.ownBlock = some b) w w') (b' : ∀ b, v'.ownBlock = some b → vt.ownBlock = some b ∨ w.heap.size ≤ b) : Aside (Dx A w0 p L m v' (T ++ [t]) (give own w.heap.size 9) w') := by
  have s : Sn (fun k => k = 9) own w (give own w.heap.size 9) w' := ⟨fun k hk => give_old hk, k'.mono (fun k hk _ => h.it.o k hk)⟩
  refine ⟨⟨h.it.l.sn s (by omega) (fun k hk e => by have := hk.2; omega), ?_, fun k hk => ?_⟩⟩
  · rw [flatT_snoc, List.length_append]
    exact o'
  · rcases b' k hk with e | e
    · rw [give_old (owns_lt h.it.t k e)]
      exact h.it.o k e
    · exact give_new e
theorem putL_failD (l : List Tk) (t : Tk) (h : (putL l t).2 ≠ 0) : (putL l t).1 = l := by
  unfold putL at h ⊢
  split
  · rfl
  · rename_i h0
    rw [if_neg h0] at h
    split
    · rename_i h1
      rw [if_pos h1] at h
      exact absurd rfl h
    · rename_i h1
      rw [if_neg h1] at h
      split
      · rename_i h2
        rw [h2] at h
        exact absurd rfl h
      · rename_i u h2
        rw [h2] at h
        simp only at h
        split
        · rfl
        · rename_i h3
          rw [if_neg h3] at h
          split
          · rfl
          · rename_i h4
            rw [if_neg h4] at h
            exact absurd rfl h

theorem not_in4_9' : ¬ In4 1 9 := fun h => by have := h.2; omega
theorem Ln.wide (h : Ln A w0 own w p L m) : ∀ t ∈ L, t.Wide := by
  obtain ⟨Z, ⟨fp, mb, F, h1⟩, rfl⟩ := h.l
  intro t ht
  obtain ⟨x, hx, rfl⟩ := List.mem_map.1 ht
  exact (h1.ok.may x hx).2
theorem drn_len (T0 : List Tk) (suf pre : List Tk) : (drn T0 pre suf).length ≤ suf.length := by
  induction suf generalizing pre with
  | nil => exact Nat.le_refl _
  | cons u r ih =>
    unfold drn
    split
    · exact Nat.le_trans (ih _) (Nat.le_succ _)
    · simp only [List.length_cons]
      exact Nat.succ_le_succ (ih _)
theorem sumG_take (T : List Tk) (j : Nat) (u : Tk) (s : Nat) (h : T[j]? = some u) : sumG (T.take (j + 1)) s = sumG (T.take j) s + if isT 3 s u then u.v else 0 := by
  rw [List.take_add_one, h]
  exact sumG_snoc _ _ _
theorem sumG_le (T : List Tk) (s j : Nat) (hw : ∀ t ∈ T, t.Wide) (hj : j ≤ T.length) : sumG (T.take j) s ≤ j * 4294967295 := by
  induction j with
  | zero => exact Nat.le_refl 0
  | succ j ih =>
    obtain ⟨u, hu⟩ : ∃ u, T[j]? = some u := ⟨_, List.getElem?_eq_getElem (by omega)⟩
    rw [sumG_take T j u s hu]
    have h1 := ih (by omega)
    have h2 := (hw u (List.mem_of_getElem? hu)).v1
    rw [Nat.add_mul, Nat.one_mul]
    refine Nat.add_le_add h1 ?_
    split
    · exact h2
    · exact Nat.zero_le _

theorem dx_at {qa : Option Addr} {N ca j : Nat} {t : Tk} (X : Aside (Dx A w0 p L m (.slice qa N ca) T own w)) (h : T[j]? = some t) : ∃ g o, qa = some ⟨g, o, none⟩ ∧ w.cell? ⟨g, o + j * 3, none⟩ = some (.int .i64 t.k) ∧ w.cell? ⟨g, o + j * 3 + 1, none⟩ = some (.int .u32 t.s) ∧ w.cell? ⟨g, o + j * 3 + 2, none⟩ = some (.int .u32 t.v) := by
  obtain ⟨a, c, e, _, _, hc⟩ := (Dx.rd X).at
  injection e with e1 _ _
  rw [e1]
  exact hc j t h
theorem dx_len {qa : Option Addr} {N ca : Nat} (X : Aside (Dx A w0 p L m (.slice qa N ca) T own w)) : N = T.length ∧ N ≤ ca := by
  obtain ⟨a, c, e, h1, _, _⟩ := (Dx.rd X).at
  injection e with _ e2 e3
  exact ⟨e2, by rw [e2, e3]; exact h1⟩
def sumJ (T : List Tk) (t : Tk) (j : Nat) : Nat := if t.k = 3 then sumG (T.take j) t.s else 0
def latJ (T : List Tk) (t : Tk) (i j : Nat) : Bool := decide (t.k = 3) && (T.take (min i j)).any (isT 3 t.s)
def hitJ (t u : Tk) : Bool := decide (t.k = 3) && isT 3 t.s u
theorem sumJ_next (T : List Tk) (t u : Tk) (j : Nat) (h : T[j]? = some u) : sumJ T t (j + 1) = sumJ T t j + if hitJ t u then u.v else 0 := by
  unfold sumJ hitJ
  by_cases h3 : t.k = 3
  · rw [if_pos h3, if_pos h3, sumG_take T j u t.s h, decide_eq_true h3, Bool.true_and]
  · rw [if_neg h3, if_neg h3, decide_eq_false h3, Bool.false_and]
    simp
theorem latJ_next (T : List Tk) (t u : Tk) (i j : Nat) (h : T[j]? = some u) : latJ T t i (j + 1) = (latJ T t i j || (hitJ t u && decide (j < i))) := by
  unfold latJ hitJ
  by_cases h3 : t.k = 3
  · rw [decide_eq_true h3, Bool.true_and, Bool.true_and, Bool.true_and]
    by_cases hj : j < i
    · rw [show min i (j + 1) = j + 1 by omega, show min i j = j by omega, List.take_add_one, h, List.any_append, decide_eq_true hj, Bool.and_true]
      simp
    · rw [show min i (j + 1) = i by omega, show min i j = i by omega, decide_eq_false hj, Bool.and_false, Bool.or_false]
  · rw [decide_eq_false h3, Bool.false_and, Bool.false_and, Bool.false_and]
    rfl
theorem sumJ_le (T : List Tk) (t : Tk) (j : Nat) (hw : ∀ t ∈ T, t.Wide) (hj : j ≤ T.length) (h2 : T.length ≤ 2000) : sumJ T t j ≤ 8589934590000 := by
  unfold sumJ
  split
  · have := sumG_le T t.s j hw hj
    have h3 : j * 4294967295 ≤ 2000 * 4294967295 := Nat.mul_le_mul_right _ (by omega)
    omega
  · exact Nat.zero_le _
theorem drn_at (T : List Tk) (i : Nat) (t : Tk) (h : T[i]? = some t) : drn T (T.take i) (T.drop i) = if latJ T t i T.length then drn T (T.take (i + 1)) (T.drop (i + 1)) else outT T t :: drn T (T.take (i + 1)) (T.drop (i + 1)) := by
  obtain ⟨hi, he⟩ := List.getElem?_eq_some_iff.1 h
  have e1 : T.drop i = t :: T.drop (i + 1) := by rw [List.drop_eq_getElem_cons hi, he]
  have e2 : T.take (i + 1) = T.take i ++ [t] := by rw [List.take_add_one, h]; rfl
  rw [e1, e2]
  conv => lhs; unfold drn
  unfold latJ
  rw [show min i T.length = i by omega]
  by_cases h3 : t.k = 3 <;> simp [h3]

set_option maxRecDepth 20000 in
set_option maxHeartbeats 8000000 in
theorem laneDrains_walk {A : Nat → Addr} (v : Value) (zs : List Tk) (w : World) (h : St11 A w) (hz : Tks11Arg w v zs) :
    Calls Tryd.prog 4 #[v] w fun e w' => e = .returned (.bool true) ∧ Below w.heap.size w w' := by
  obtain ⟨hz, hzb⟩ := hz
  obtain ⟨sa, cap, rfl, hlc, hcm, hat⟩ := hz
  have HAT := Aside.mk hat
  obtain ⟨M, hM⟩ : ∃ M, M = zs.length := ⟨_, rfl⟩
  rw [← hM] at hlc hzb ⊢
  have HM := Aside.mk hM
  have hMb : (M : Int) ≤ 9223372036854775807 := by omega
  have hMc : (M : Int) ≤ cap := by omega
  have FX := Aside.mk (fixed_ok h)
  have G0 := Aside.mk (Gl.start h)
  clear h hM hcm hat hzb
  go_enter Tryd.func4, Tryd.ntmps4
  go_upto_region 5 with (first
    | (go_at_call 8; refine FX.it.mono ?_; rintro e w1 ⟨rfl, k1⟩; have NW := Aside.mk (newX (G0.it.quiet k1.it)))
    | (go_at_call 9; refine NW.it.mono ?_; rintro e w2 ⟨p, own2, rfl, L2⟩)
    | fail)
  clear FX NW k1 G0
  go_cut [24, 25, 26] (fun sl ln iv wx => ∃ D : Nat, sl = .slice sa D cap ∧ ln = .int .i64 D ∧ iv = .int .i64 0 ∧ Aside (D ≤ M ∧ D ≤ 2000) ∧ wx = w2)
  case first =>
    by_cases hm : (M : Int) ≤ 2000
    · have e1 : min (M : Int) 2000 = M := by omega
      go_wp2_with fail
      all_goals (try (exfalso; omega))
      go_meet
      case rel => exact ⟨M, rfl, rfl, rfl, ⟨Nat.le_refl _, by omega⟩, rfl⟩
    · have e1 : min (M : Int) 2000 = 2000 := by omega
      have e2 : (2000 : Int) ≤ cap := by omega
      go_wp2_with fail
      all_goals (try (exfalso; omega))
      go_meet
      case rel => exact ⟨2000, rfl, rfl, rfl, ⟨by omega, Nat.le_refl _⟩, rfl⟩
  case rest =>
    obtain ⟨D, rfl, rfl, rfl, HD, hw⟩ := hcut
    subst hw
    have hD2 : (D : Int) ≤ 2000 := by have := HD.it; omega
    have D2 : Aside (Dx A w p (drn [] [] []) 0 (.slice none 0 0) [] own2 wc) := ⟨⟨L2.it, World.ownsRow_nil _ _ _ _, fun k hk => by cases hk⟩⟩
    clear L2
    go_wp2_with fail
    go_loopw [4, 26] (fun tv iv wr => ∃ (k : Nat) (T : List Tk) (own : Nat → Nat) (ta : Option Addr) (tl tc : Nat), tv = .slice ta tl tc ∧ iv = .int .i64 k ∧ k ≤ D ∧ Aside (T.length ≤ k ∧ ∀ t ∈ T, t.Wide) ∧ Aside (Dx A w p (drn T [] T) k (.slice ta tl tc) T own wr)) (fun _ iv _ => D - (intOf iv).toNat)
    case atStart => exact ⟨0, [], own2, none, 0, 0, rfl, rfl, Nat.zero_le _, ⟨Nat.le_refl _, fun t ht => by cases ht⟩, D2⟩
    case round =>
      clear D2
      obtain ⟨k, T, own, ta, tl, tc, rfl, rfl, hk, HT, HX⟩ := hrel
      rcases Nat.eq_or_lt_of_le hk with rfl | hlt
      · obtain ⟨N, hN⟩ : ∃ N, N = tl := ⟨_, rfl⟩
        subst hN
        obtain ⟨hN, hNc⟩ := dx_len HX
        have HN := Aside.mk hN
        have hNk : N ≤ k := by rw [hN]; exact HT.it.1
        have hN2 : (N : Int) ≤ 2000 := by omega
        have LN := Aside.mk (lenX HX.it.l)
        have dl : (((drn T [] T).length : Nat) : Int) ≤ N := by have := drn_len T T []; rw [← hN] at this; omega
        have dl2 : decide (N < (drn T [] T).length) = false := decide_eq_false (by omega)
        clear hN
        go_upto_region 13 with (first
          | (go_at_call 11; refine LN.it.mono ?_; rintro e w5 ⟨rfl, k5⟩; have X5 := Dx.quiet HX k5.it)
          | fail)
        all_goals (try (exfalso; omega))
        clear LN HX dl dl2
        go_wp2_with fail
        go_loopw [46] (fun iv wr => ∃ (i : Nat) (own : Nat → Nat), iv = .int .i64 i ∧ i ≤ N ∧ Aside (Dx A w p (drn T (T.take i) (T.drop i)) k (.slice ta N tc) T own wr)) (fun iv _ => N - (intOf iv).toNat)
        case atStart => exact ⟨0, own, rfl, Nat.zero_le _, X5⟩
        case round =>
          clear X5
          obtain ⟨i, own5, rfl, hi, HX⟩ := hrel
          rcases Nat.eq_or_lt_of_le hi with rfl | hilt
          · have e0 : drn T (T.take i) (T.drop i) = [] := by rw [HN.it, List.drop_length]; rfl
            rw [e0] at HX
            have NX := Aside.mk (nextE HX.it.l)
            clear e0
            go_upto_region 30 with (first
              | (go_at_call 17; refine NX.it.mono ?_; rintro e w6 ⟨rfl, L6⟩)
              | fail)
            all_goals (try (exfalso; omega))
            obtain ⟨W7, hW7⟩ : ∃ W7, W7 = w6.alloc (tbox 0 0 0) := ⟨_, rfl⟩
            rw [show w6.alloc (.cells #[.int .i64 0, .int .u32 0, .int .u32 0] 30) = W7 from hW7.symm]
            have L7 : Aside (Ln A w own5 W7 p [] k) := ⟨L6.it.quiet (by rw [hW7]; exact (Keeps.refl _ _).alloc _)⟩
            have LN := Aside.mk (lenX L7.it)
            clear hW7 L6 NX
            go_wp2_with (first
              | (go_at_call 11; refine LN.it.mono ?_; rintro e w8 ⟨rfl, k8⟩)
              | fail)
            go_ret
            exact ⟨rfl, (L7.it.quiet k8.it).g.g.bel⟩
          · obtain ⟨t, ht⟩ : ∃ t, T[i]? = some t := ⟨_, List.getElem?_eq_getElem (by rw [← HN.it]; exact hilt)⟩
            have hdr := drn_at T i t ht
            obtain ⟨g, oo, rfl, a0, a1, a2⟩ := dx_at HX ht
            have i4 : (i : Int) < N := by omega
            have i5 : (0 : Int) ≤ i := by omega
            have DR := Aside.mk hdr
            have HTW := Aside.mk (HT.it.2 t (List.mem_of_getElem? ht))
            clear hdr ht
            go_upto_region 16 with fail
            all_goals (try (exfalso; omega))
            obtain ⟨W3, hW3⟩ : ∃ W3, W3 = wr.alloc (tbox t.k t.s t.v) := ⟨_, rfl⟩
            rw [show wr.alloc (.cells #[.int .i64 t.k, .int .u32 t.s, .int .u32 t.v] 30) = W3 from hW3.symm]
            have k3 : Keeps Nowhere wr W3 := by rw [hW3]; exact (Keeps.refl _ _).alloc _
            have s3 : Sn (fun _ => False) own5 wr (give own5 wr.heap.size 9) W3 := Sn.quiet k3 9
            have T3 : Aside (CellsO (give own5 wr.heap.size 9) 9 W3 wr.heap.size 30 (tcells t)) := ⟨by rw [hW3]; exact tbox_new _ _ _ _, give_new (Nat.le_refl _)⟩
            have X3 : Aside (Dx A w p (drn T (T.take i) (T.drop i)) k (.slice (some ⟨g, oo, none⟩) N tc) T (give own5 wr.heap.size 9) W3) := ⟨⟨HX.it.l.sn s3 (fun x => x) (fun _ _ x => x), owns_later HX.it.t k3 (fun _ _ x => x), fun g hg => (s3.agree g (owns_lt HX.it.t g hg)).trans (HX.it.o g hg)⟩⟩
            generalize give own5 wr.heap.size 9 = own3 at T3 X3
            clear s3 k3 hW3 HX a0 a1 a2
            generalize wr.heap.size = tb at T3 ⊢
            go_wp2_with fail
            go_loopw [9, 10, 53] (fun sv lv jv wx => ∃ j : Nat, sv = .int .i64 (sumJ T t j) ∧ lv = .bool (latJ T t i j) ∧ jv = .int .i64 j ∧ j ≤ N ∧ Aside (Keeps Nowhere W3 wx)) (fun _ _ jv _ => N - (intOf jv).toNat)
            case atStart => exact ⟨0, by simp [sumJ, sumG], by simp [latJ], rfl, Nat.zero_le _, ⟨Keeps.refl _ _⟩⟩
            case round =>
              obtain ⟨j, rfl, rfl, rfl, hj, HK⟩ := hrel
              rcases Nat.eq_or_lt_of_le hj with rfl | hjlt
              · have X6 := Dx.quiet X3 HK.it
                have T6 := Aside.mk (T3.it.sn (I := fun _ => False) (Sn.same HK.it) (fun x => x))
                have hjl : j = T.length := HN.it
                rw [← hjl] at DR
                have HS : Aside (t.k = 3 → sumJ T t j = sumG T t.s) := ⟨fun h3 => by rw [sumJ, if_pos h3, hjl, List.take_length]⟩
                clear X3 T3 HK hjl
                cases hlt' : latJ T t i j with
                | true =>
                  rw [hlt', if_pos rfl] at DR
                  rw [DR.it] at X6
                  clear hlt'
                  go_wp2
                  all_goals (try (exfalso; omega))
                  go_roundw
                  case rel => exact ⟨i + 1, own3, by go_num, by omega, X6⟩
                  case measure => (simp only [intOf]; omega)
                | false =>
                  rw [hlt', if_neg (by simp)] at DR
                  rw [DR.it] at X6
                  have NX := Aside.mk (nextX (outT T t) X6.it.l (by omega))
                  have ow := X6.it.l.wide _ List.mem_cons_self
                  have OW := Aside.mk ow.v1
                  clear hlt' ow
                  obtain ⟨gt, hgt⟩ : ∃ gt, Aside (gt = outT T t) := ⟨_, ⟨rfl⟩⟩
                  rw [← hgt.it] at NX OW
                  have gk : Aside (gt.k = t.k ∧ gt.s = t.s) := ⟨by rw [hgt.it]; exact outT_k T t⟩
                  obtain ⟨gk', gs, gv⟩ := gt
                  simp only at gk NX OW
                  obtain rfl := gk.it.1
                  obtain rfl := gk.it.2
                  go_upto_region 25 with fail
                  all_goals (try (exfalso; omega))
                  go_upto_region 26 with (first
                    | (go_at_call 17; refine NX.it.mono ?_; rintro e w7 ⟨own7, rfl, L7, S7⟩)
                    | fail)
                  obtain ⟨W8, hW8⟩ : ∃ W8, W8 = w7.alloc (tbox t.k t.s gv) := ⟨_, rfl⟩
                  rw [show w7.alloc (.cells #[.int .i64 t.k, .int .u32 t.s, .int .u32 gv] 30) = W8 from hW8.symm]
                  have K8 : Keeps Nowhere w7 W8 := by rw [hW8]; exact (Keeps.refl _ _).alloc _
                  have X8 := Dx.quiet (Dx.sn X6 S7.it L7.it) K8
                  obtain ⟨g0, g1, g2⟩ : TB W8 w7.heap.size t.k t.s gv := by rw [hW8]; exact TB.of (tbox_new _ _ _ _)
                  obtain ⟨c0, c1, c2⟩ := TB.of ((T6.it.sn S7.it not_in4_9').1.later K8 (fun x => x))
                  clear hW8 K8 NX X6 T6 S7 L7
                  generalize w7.heap.size = gb at g0 g1 g2 ⊢
                  have ov := OW.it
                  by_cases h3 : t.k = 3
                  · have hv : Aside ((gv : Int) = sumJ T t j) := ⟨by
                      have h1 := congrArg Tk.v hgt.it
                      rw [outT, if_pos h3] at h1
                      rw [HS.it h3]
                      exact congrArg Int.ofNat h1⟩
                    have e3 : (t.k == 3) = true := by simpa using h3
                    have e4 : (t.k != 3) = false := by simpa using h3
                    rw [← hv.it]
                    clear h3
                    go_wp2_with fail
                    go_roundw
                    case rel => exact ⟨i + 1, own7, by go_num, by omega, X8⟩
                    case measure => (simp only [intOf]; omega)
                  · have hv : Aside (gv = t.v) := ⟨by
                      have h1 := congrArg Tk.v hgt.it
                      rw [outT, if_neg h3] at h1
                      exact h1⟩
                    have e3 : (t.k == 3) = false := by simpa using h3
                    have e4 : (t.k != 3) = true := by simpa using h3
                    rw [hv.it] at g2
                    clear h3
                    go_wp2_with fail
                    go_roundw
                    case rel => exact ⟨i + 1, own7, by go_num, by omega, X8⟩
                    case measure => (simp only [intOf]; omega)
              · obtain ⟨u, hu⟩ : ∃ u, T[j]? = some u := ⟨_, List.getElem?_eq_getElem (by rw [← HN.it]; exact hjlt)⟩
                obtain ⟨g', oo', eg, a0, a1, a2⟩ := dx_at (Dx.quiet X3 HK.it) hu
                injection eg with eg
                injection eg with e1 e2
                subst e1 e2
                obtain ⟨b0, b1, b2⟩ := TB.of (T3.it.1.later HK.it (fun x => x))
                have SJ := Aside.mk (sumJ_next T t u j hu)
                have LJ := Aside.mk (latJ_next T t u i j hu)
                have sb := sumJ_le T t j HT.it.2 (by have := HN.it; omega) (by have := HN.it; omega)
                have uv := (HT.it.2 u (List.mem_of_getElem? hu)).v1
                have j4 : (j : Int) < N := by omega
                have j5 : (0 : Int) ≤ j := by omega
                clear hu
                generalize sumJ T t j = sm at SJ sb ⊢
                generalize latJ T t i j = lt at LJ ⊢
                have sb' : (sm : Int) + u.v ≤ 9223372036854775807 := by omega
                go_upto_region 20 with fail
                all_goals (try (exfalso; omega))
                obtain ⟨W5, hW5⟩ : ∃ W5, W5 = wr.alloc (tbox u.k u.s u.v) := ⟨_, rfl⟩
                rw [show wr.alloc (.cells #[.int .i64 u.k, .int .u32 u.s, .int .u32 u.v] 30) = W5 from hW5.symm]
                have K5 : Aside (Keeps Nowhere W3 W5) := ⟨by rw [hW5]; exact HK.it.alloc _⟩
                obtain ⟨u0, u1, u2⟩ : TB W5 wr.heap.size u.k u.s u.v := by rw [hW5]; exact TB.of (tbox_new _ _ _ _)
                obtain ⟨c0, c1, c2⟩ := TB.of (T3.it.1.later K5.it (fun x => x))
                clear hW5 HK b0 b1 b2 a0 a1 a2
                generalize wr.heap.size = ub at u0 u1 u2 ⊢
                by_cases h3 : t.k = 3
                · have e3 : (t.k == 3) = true := by simpa using h3
                  by_cases h4 : u.k = t.k
                  · have e4 : (u.k == t.k) = true := by simpa using h4
                    by_cases h5 : (u.s : Int) = t.s
                    · have e5 : ((u.s : Int) == t.s) = true := by simpa using h5
                      have HH : Aside (hitJ t u = true) := ⟨by rw [hitJ, decide_eq_true h3, isT_iff.2 ⟨h4.trans h3, by omega⟩]; rfl⟩
                      rw [HH.it, if_pos rfl] at SJ
                      rw [HH.it, Bool.true_and] at LJ
                      clear h3 h4 h5
                      cases lt with
                      | true =>
                        go_wp2_with fail
                        go_roundw
                        case rel => exact ⟨j + 1, by rw [SJ.it]; go_num, by rw [LJ.it]; rfl, by go_num, by omega, K5⟩
                        case measure => (simp only [intOf]; omega)
                      | false =>
                        by_cases hji : (j : Int) < i
                        · go_wp2
                          go_roundw
                          case rel => exact ⟨j + 1, by rw [SJ.it]; go_num, by rw [LJ.it, decide_eq_true (by omega : j < i)]; rfl, by go_num, by omega, K5⟩
                          case measure => (simp only [intOf]; omega)
                        · go_wp2
                          go_roundw
                          case rel => exact ⟨j + 1, by rw [SJ.it]; go_num, by rw [LJ.it, decide_eq_false (by omega : ¬ j < i)]; rfl, by go_num, by omega, K5⟩
                          case measure => (simp only [intOf]; omega)
                    · have e5 : ((u.s : Int) == t.s) = false := by simpa using h5
                      have HH : Aside (hitJ t u = false) := ⟨by
                        cases hc : hitJ t u with
                        | false => rfl
                        | true => exact absurd (by have := (isT_iff.1 (Bool.and_eq_true_iff.1 hc).2).2; omega) h5⟩
                      rw [HH.it, if_neg (by simp), Nat.add_zero] at SJ
                      rw [HH.it, Bool.false_and, Bool.or_false] at LJ
                      clear HH
                      go_wp2_with fail
                      go_roundw
                      case rel => first | exact ⟨j + 1, by rw [SJ.it]; first | rfl | go_num, by rw [LJ.it], by go_num, by omega, K5⟩ | exact ⟨_, _, _, _, _, ⟨j + 1, by rw [SJ.it]; first | rfl | go_num, by rw [LJ.it], by go_num, by omega⟩, rfl, rfl, rfl, rfl, rfl⟩
                      case measure => (simp only [intOf]; omega)
                  · have e4 : (u.k == t.k) = false := by simpa using h4
                    have HH : Aside (hitJ t u = false) := ⟨by
                      cases hc : hitJ t u with
                      | false => rfl
                      | true => exact absurd ((isT_iff.1 (Bool.and_eq_true_iff.1 hc).2).1.trans h3.symm) h4⟩
                    rw [HH.it, if_neg (by simp), Nat.add_zero] at SJ
                    rw [HH.it, Bool.false_and, Bool.or_false] at LJ
                    clear HH
                    go_wp2_with fail
                    go_roundw
                    case rel => first | exact ⟨j + 1, by rw [SJ.it]; first | rfl | go_num, by rw [LJ.it], by go_num, by omega, K5⟩ | exact ⟨_, _, _, _, _, ⟨j + 1, by rw [SJ.it]; first | rfl | go_num, by rw [LJ.it], by go_num, by omega⟩, rfl, rfl, rfl, rfl, rfl⟩
                    case measure => (simp only [intOf]; omega)
                · have e3 : (t.k == 3) = false := by simpa using h3
                  have HH : Aside (hitJ t u = false) := ⟨by rw [hitJ, decide_eq_false h3, Bool.false_and]⟩
                  rw [HH.it, if_neg (by simp), Nat.add_zero] at SJ
                  rw [HH.it, Bool.false_and, Bool.or_false] at LJ
                  clear HH
                  go_wp2_with fail
                  go_roundw
                  case rel => first | exact ⟨j + 1, by rw [SJ.it]; first | rfl | go_num, by rw [LJ.it], by go_num, by omega, K5⟩ | exact ⟨_, _, _, _, _, ⟨j + 1, by rw [SJ.it]; first | rfl | go_num, by rw [LJ.it], by go_num, by omega⟩, rfl, rfl, rfl, rfl, rfl⟩
                  case measure => (simp only [intOf]; omega)
      · obtain ⟨t, ht⟩ : ∃ t, zs[k]? = some t := ⟨_, List.getElem?_eq_getElem (by have := HD.it; have := HM.it; omega)⟩
        obtain ⟨sb, so, cs, rfl, ⟨hcs, hwide⟩, _, hc⟩ := HAT.it k t ht
        subst hcs
        have hbel := HX.it.l.g.g.bel
        have ev0 : ∀ {q v}, w.cell? q = some v → wr.cell? q = some v := fun {q v} h => by rw [World.cell?_of_block (hbel.block _ (World.block_lt_of_cell? w _ h))]; exact h
        have r0 := hc 0 (by decide)
        have r1 := hc 1 (by decide)
        have r2 := hc 2 (by decide)
        simp only [List.getElem?_cons_zero, List.getElem?_cons_succ, Nat.add_zero] at r0 r1 r2
        replace r0 := ev0 r0
        replace r1 := ev0 r1
        replace r2 := ev0 r2
        have HW := Aside.mk hwide
        have i2 : (k : Int) < D := by omega
        have i3 : (0 : Int) ≤ k := by omega
        clear ht hc hwide ev0 hbel
        go_upto_region 8 with fail
        all_goals (try (exfalso; omega))
        obtain ⟨W3, hW3⟩ : ∃ W3, W3 = wr.alloc (tbox t.k t.s t.v) := ⟨_, rfl⟩
        rw [show wr.alloc (.cells #[.int .i64 t.k, .int .u32 t.s, .int .u32 t.v] 30) = W3 from hW3.symm]
        have k3 : Keeps Nowhere wr W3 := by rw [hW3]; exact (Keeps.refl _ _).alloc _
        have s3 : Sn (fun _ => False) own wr (give own wr.heap.size 9) W3 := Sn.quiet k3 9
        have T3 : Aside (CellsO (give own wr.heap.size 9) 9 W3 wr.heap.size 30 (tcells t)) := ⟨by rw [hW3]; exact tbox_new _ _ _ _, give_new (Nat.le_refl _)⟩
        have X3 : Aside (Dx A w p (drn T [] T) k (.slice ta tl tc) T (give own wr.heap.size 9) W3) := ⟨⟨HX.it.l.sn s3 (fun x => x) (fun _ _ x => x), owns_later HX.it.t k3 (fun _ _ x => x), fun g hg => (s3.agree g (owns_lt HX.it.t g hg)).trans (HX.it.o g hg)⟩⟩
        obtain ⟨t0, t1, t2⟩ := TB.of T3.it.1
        generalize give own wr.heap.size 9 = own3 at T3 X3
        clear s3 k3 hW3 HX r0 r1 r2
        generalize wr.heap.size = tb at T3 t0 t1 t2 ⊢
        have PX := Aside.mk (putX X3.it.l t HW.it (by omega))
        by_cases hp : (putL (drn T [] T) t).2 = 0
        · rw [hp, putL_takes T t hp] at PX
          go_wp2_with (first
            | (go_at_call 16; refine PX.it.mono ?_; rintro e w4 ⟨x4, own4, rfl, hx4, L4, S4⟩; have e4 := Coded.zero hx4; subst e4; have X4 := Dx.sn X3 S4.it L4.it; have T4 := Aside.mk (T3.it.sn S4.it not_in4_9'); obtain ⟨u0, u1, u2⟩ := TB.of T4.it.1)
            | (at_builtin; refine wpList_appendR rfl (.tmp 34) (.tmp 36) 26 rfl 30 (.agg #[.int .i64 0, .int .u32 0, .int .u32 0]) 3 16 Tryd.underlying26 infoT rfl (by decide) w4 ((Keeps.refl _ _).alloc _) 0 _ _ _ X4.it.t _ 1 (tcells t) (readsK_new _ _ (tcells t)) (by simp [tcells, Value.oneCell']) (by have h2 := HT.it.1; omega) (by unfold maxLen; have h2 := HT.it.1; omega) (Nat.zero_le _) rfl rfl ?_; intro v' w' o' k' b'; obtain ⟨g0, g1, g2, hv'⟩ := owns_shapeK o'.it; subst hv')
            | fail)
          go_roundw
          case rel =>
            have ka : Keeps Nowhere w4 (w4.alloc (tbox t.k t.s t.v)) := (Keeps.refl _ _).alloc _
            have XA := Dx.quiet X4 ka
            have XB := Dx.took XA o'.it k'.it b'.it
            refine ⟨k + 1, T ++ [t], _, g0, g1, g2, rfl, by go_num, by omega, ⟨?_, ?_⟩, XB⟩
            · rw [List.length_append]; have := HT.it.1; simp only [List.length_cons, List.length_nil]; omega
            · intro u hu
              rcases List.mem_append.1 hu with hu | hu
              · exact HT.it.2 u hu
              · simp only [List.mem_singleton] at hu
                subst hu
                exact HW.it
          case measure => (simp only [intOf]; omega)
        · have hpf := putL_failD (drn T [] T) t hp
          rw [hpf] at PX
          go_wp2_with (first
            | (go_at_call 16; refine PX.it.mono ?_; rintro e w4 ⟨x4, own4, rfl, hx4, L4, S4⟩; obtain ⟨a4, e4⟩ := Coded.pos hx4 (by omega); subst e4; have X4 := Dx.sn X3 S4.it L4.it)
            | fail)
          go_roundw
          case rel => exact ⟨k + 1, T, own4, ta, tl, tc, rfl, by go_num, by omega, ⟨by have := HT.it.1; omega, HT.it.2⟩, X4⟩
          case measure => (simp only [intOf]; omega)
end Go.Proofs.YtccbhmmonaaikaaDoor
