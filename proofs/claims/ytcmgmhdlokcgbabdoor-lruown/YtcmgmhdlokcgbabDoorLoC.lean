/-
  LruOwn's walk
-/
import Derived.Test.YtcmgmhdlokcgbabDoorLoB
import Derived.BigRegion
import Derived.Deep.CutBlock
namespace Go.Proofs.YtcmgmhdlokcgbabDoor
open Go.RowKit Lulnn

variable {w w' w0 W W1 : World} {own own' : Nat → Nat} {i c o j ca b q n K : Nat} {room k now : Int} {L M : List Rx} {I : Nat → Prop} {x y : Rx} {z : Oz} {v va vb kv tv : Value} {ks ms l : List Int} {vs ts : List Value} {f : Nat → List Int}

theorem mI_one : ∀ u ∈ ms.map mI, u.oneCell' = true := fun u hu => by obtain ⟨x, _, rfl⟩ := List.mem_map.1 hu; rfl
theorem ow_nil (w : World) : (w.alloc (.cells #[] 3)).ownsRow w.heap.size 3 1 (.slice (some ⟨w.heap.size, 0, none⟩) 0 0) 0 [] :=
  ⟨by simp, .inr ⟨w.heap.size, 0, #[], rfl, Nat.le_refl _, Cells.new w 3 [], Nat.le_refl _, Nat.zero_le _, by simp, by simp⟩⟩
theorem gonN_le (room : Int) (L : List Rx) (z : Oz) : (gonN room L z).length ≤ L.length := by
  unfold gonN
  split
  · rw [keyL_len]
    unfold goneX
    rw [List.length_reverse, List.length_drop]
    have := dropL_len (L := L) (k := z.rx.k)
    omega
  · simp
theorem LOk.stayO (h : LOk room L) (now : Int) : LOk room (oldL L now) := h.sub List.filter_sublist
theorem owns_len2 {base e k n l c : Nat} {a : Option Addr} {xs : List Value} (h : w.ownsRow base e k (.slice a l c) n xs) : l = n := by
  rcases h.2 with ⟨h1, h0⟩ | ⟨g, cap, cur, h1, _⟩
  · injection h1 with _ h2 _; omega
  · injection h1
theorem li_of {o m : Nat} (h : OwR own o w 3 1 v m (rk L)) : Li own o w v (keyL L) := by
  rw [rk_iv] at h
  have hl := h.1.1
  have e : m = (keyL L).length := by rw [iv_length] at hl; omega
  rw [e] at h
  exact h
theorem key_i6 (h : LOk room L) : ∀ y ∈ keyL L, I6 y := fun y hy => by obtain ⟨x, hx, e⟩ := List.mem_map.1 hy; rw [← e]; exact (h.ok x hx).k
set_option maxHeartbeats 16000000 in
set_option maxRecDepth 20000 in
theorem lruOwn_walk {A : Nat → Addr} (room : Int) (v1 : Value) (ys : List Oz) (w : World) (hs : Sents 81 codeVars A w) (hwf : (Lit.int .i64 room).wf = true) (h1 : Ops28Arg w v1 ys) :
    Calls Tryd.prog 4 #[.int .i64 room, v1] w fun e w' => e = .returned (.bool true) ∧ Below w.heap.size w w' := by
  have AW := Aside.mk (awake_ok hs)
  have hr : I6 room := lu_wf hwf
  have HS := Aside.mk hs
  clear hs hwf
  rcases Int.lt_or_le room 0 with hneg | hpos
  · go_enter Tryd.func4, Tryd.ntmps4
    go_upto_region 3 with (first | (go_at_call 5; refine AW.it.mono ?_; clear AW; rintro e w1 ⟨rfl, K1⟩) | fail)
    have N1 := Aside.mk (new_neg (HS.it.later K1.it.bel) hneg)
    go_upto_region 4 with (first | (go_at_call 6; refine N1.it.mono ?_; clear N1; rintro e w2 ⟨rfl, K2⟩) | fail)
    go_wp2_with fail
    go_ret
    exact ⟨rfl, (K1.it.trans K2.it).bel⟩
  · obtain ⟨L1, B1⟩ := h1
    have C1 := L1
    obtain ⟨q1, c1, rfl, hc1, hx1, _⟩ := C1
    have O1 := Aside.mk (fun i z (hi : ys[i]? = some z) => oz_at L1 hi)
    clear L1
    obtain ⟨n1, hn1⟩ : ∃ n, ys.length = n := ⟨_, rfl⟩
    have E1 := Aside.mk hn1
    rw [hn1] at B1 hc1 ⊢
    clear hn1
    have mx : maxLen ≤ 9223372036854775807 := by decide
    go_enter Tryd.func4, Tryd.ntmps4
    go_upto_region 3 with (first | (go_at_call 5; refine AW.it.mono ?_; clear AW; rintro e w1 ⟨rfl, K1⟩) | fail)
    have G1 := Aside.mk ((OnG.start HS.it).quiet K1.it)
    have N1 := Aside.mk (new_pos (fun _ => 0) 1 w1 hpos hr.2)
    go_upto_region 4 with (first | (go_at_call 6; refine N1.it.mono ?_; clear N1; rintro e w2 ⟨ca, rfl, A2, K2⟩) | fail)
    have X3 : Aside (Kb A w (give (fun _ => 0) w1.heap.size 1) w2 ca room [] (.slice none 0 0) [] (fun _ => [])) := ⟨G1.it.sn (I := fun _ => False) (Sn.quiet K2.it 1) (fun x => x), A2.it, OwR.zero, fun k v e => by simp at e, fun k hk => by simp at hk⟩
    have T3 : Aside (Kt (give (fun _ => 0) w1.heap.size 1) w2 (.slice none 0 0) [] (fun _ => [])) := ⟨OwR.zero, fun k v e => by simp at e⟩
    generalize give (fun _ => 0) w1.heap.size 1 = own0 at X3 T3
    clear G1 A2 K1 K2
    go_upto_block 0 with fail
    go_cut [7] (fun kv wx => ∃ (N : Nat) (own : Nat → Nat) (L : List Rx) (qa : Option Addr) (qc : Nat) (vs : List Value) (f : Nat → List Int), kv = .slice qa N qc ∧ N ≤ 200 ∧ L.length ≤ 200 ∧ Aside (vs.length = N) ∧ Aside (Kb A w own wx ca room L (.slice qa N qc) vs f))
    case first =>
      go_wp2_with fail
      go_loopw [7, 8, 9] (fun kv tv iv wr => ∃ (N : Nat) (own : Nat → Nat) (L : List Rx) (qa : Option Addr) (qc : Nat) (ta : Option Addr) (tc : Nat) (vs ts : List Value) (f : Nat → List Int), kv = .slice qa N qc ∧ tv = .slice ta N tc ∧ iv = .int .i64 N ∧ (N ≤ n1 ∧ N ≤ 200) ∧ L.length ≤ N ∧ Aside (vs.length = N) ∧ Aside (ts.length = N) ∧ Aside (Kb A w own wr ca room L (.slice qa N qc) vs f) ∧ Aside (Kt own wr (.slice ta N tc) ts f)) (fun _ _ iv _ => n1 - natI iv)
      case atStart => exact ⟨0, own0, [], none, 0, none, 0, [], [], fun _ => [], rfl, rfl, rfl, ⟨Nat.zero_le _, Nat.zero_le _⟩, Nat.le_refl _, ⟨rfl⟩, ⟨rfl⟩, X3, T3⟩
      case round =>
        clear X3 T3
        obtain ⟨N, own, L, qa, qc, ta, tc, vs, ts, f, rfl, rfl, rfl, hm, hl, HN, HNT, X, T⟩ := hrel
        by_cases hlt : N < n1 ∧ N < 200
        · have k1 : (N : Int) < (n1 : Int) := by omega
          have k2 : (N : Int) < 200 := by omega
          obtain ⟨z, hz⟩ : ∃ z, ys[N]? = some z := ⟨_, List.getElem?_eq_getElem (by rw [E1.it]; exact hlt.1)⟩
          obtain ⟨b, o, rfl, op0⟩ := O1.it N z hz
          obtain ⟨g0, g1, g2, g3, g4, zok⟩ := op0.later X.it.og.g.bel
          clear op0 hz
          have KB : Aside (Keeps Nowhere wr (wr.alloc (.cells #[.int .i64 z.kd, .int .i64 z.k, .int .i64 z.v, .int .i64 z.w, .int .i64 z.u] 31))) := ⟨(Keeps.refl _ _).alloc _⟩
          have CB : Aside (CellsO (give own wr.heap.size 8) 8 (wr.alloc (.cells #[.int .i64 z.kd, .int .i64 z.k, .int .i64 z.v, .int .i64 z.w, .int .i64 z.u] 31)) wr.heap.size 31 z.cells) := ⟨Cells.new wr _ _, give_new (Nat.le_refl _)⟩
          have X1 := Aside.mk (X.it.step KB.it 8)
          have T1 := Aside.mk (T.it.sn (I := fun _ => False) (Sn.quiet KB.it 8) (fun x => x) (fun _ x => x))
          go_upto_region 12 with fail
          generalize wr.alloc (.cells #[.int .i64 z.kd, .int .i64 z.k, .int .i64 z.v, .int .i64 z.w, .int .i64 z.u] 31) = W1 at CB X1 T1 ⊢
          generalize give own wr.heap.size 8 = own1 at CB X1 T1
          clear KB X T g0 g1 g2 g3 g4
          generalize wr.heap.size = ob at CB ⊢
          have g0 : W1.cell? ⟨ob, 0, none⟩ = some (.int .i64 z.kd) := CB.it.1.cell 0
          have g1 : W1.cell? ⟨ob, 1, none⟩ = some (.int .i64 z.k) := CB.it.1.cell 1
          have g2 : W1.cell? ⟨ob, 2, none⟩ = some (.int .i64 z.v) := CB.it.1.cell 2
          have g3 : W1.cell? ⟨ob, 3, none⟩ = some (.int .i64 z.w) := CB.it.1.cell 3
          have g4 : W1.cell? ⟨ob, 4, none⟩ = some (.int .i64 z.u) := CB.it.1.cell 4
          go_upto_block 2 with fail
          go_cut [11] (fun lv wx => ∃ (own6 : Nat → Nat) (L6 : List Rx) (pa : Option Addr) (pn pc : Nat) (ms : List Int), lv = .slice pa pn pc ∧ L6.length ≤ N + 1 ∧ Aside (Kb A w own6 wx ca room L6 (.slice qa N qc) vs f) ∧ Aside (Kt own6 wx (.slice ta N tc) ts f) ∧ Aside (Li own6 (100 + 2 * N) wx (.slice pa pn pc) ms) ∧ Aside ((∀ y ∈ ms, I6 y) ∧ ms.length ≤ 1000))
          case first =>
            have hl8 : L.length * 8 ≤ 140737488355328 := by omega
            by_cases e1 : z.kd = 1
            · have q1 : (z.kd == 1) = true := by simp [e1]
              clear e1
              have PT := Aside.mk (put_i X1.it.c X1.it.og.sents zok hl8 (100 + 2 * N))
              have gl := gonN_le room L z
              have pl : (putB room L z).length ≤ L.length + 1 := by unfold putB; have := putL_len room L z.rx; split <;> omega
              go_wp2_with (first | (go_at_call 11; refine PT.it.mono ?_; clear PT; rintro e w2 ⟨pa, pc, ev, own', rfl, _, J, R, S⟩) | fail)
              go_meet
              exact ⟨own', _, pa, _, pc, gonN room L z, rfl, by omega, ⟨X1.it.move J.it S.it⟩, ⟨T1.it.sn S.it (by decide) (by omega)⟩, ⟨R.it.1⟩, ⟨R.it.2, by omega⟩⟩
            · have q1 : (z.kd == 1) = false := by simp [e1]
              by_cases e5 : z.kd = 5
              · have q5 : (z.kd == 5) = true := by simp [e5]
                clear e5
                have PT := Aside.mk (expire_o X1.it.c hl8 z.u (100 + 2 * N))
                have HB := Aside.mk (key_i6 (X1.it.c.lok.stayO z.u))
                have sl := stayL_len L z.u
                have ol : (keyL (oldL L z.u)).length ≤ L.length := by rw [keyL_len]; exact List.length_filter_le _ _
                go_wp2_with (first | (go_at_call 12; refine PT.it.mono ?_; clear PT; rintro e w2 ⟨v2, rfl, J, S⟩; obtain ⟨pa, pn, pc, rfl⟩ := owns_shapeK J.it.2.1) | fail)
                go_meet
                exact ⟨_, _, pa, _, pc, keyL (oldL L z.u), rfl, by omega, ⟨X1.it.move J.it.1 S.it⟩, ⟨T1.it.sn S.it (by decide) (by omega)⟩, ⟨li_of J.it.2⟩, ⟨HB.it, by omega⟩⟩
              · have q5 : (z.kd == 5) = false := by simp [e5]
                have PT := Aside.mk (act_ X1.it.c X1.it.og.sents zok hl8)
                have al := actL_len room L z
                go_upto_region 14 with (first | (go_at_call 7; refine PT.it.mono ?_; clear PT; rintro e w2 ⟨own2, rfl, J, S⟩) | fail)
                have X2 := Aside.mk (X1.it.move J.it S.it)
                have T2 := Aside.mk (T1.it.sn S.it (by decide) (by omega))
                have KY := Aside.mk (keys_o X2.it.c (show (actL room L z).length * 8 ≤ 140737488355328 by omega) (100 + 2 * N))
                have HB := Aside.mk (key_i6 X2.it.c.lok)
                have ol : (keyL (actL room L z)).length = (actL room L z).length := keyL_len _
                clear g0 g1 g2 g3 g4
                go_wp2_with (first | (go_at_call 13; refine KY.it.mono ?_; clear KY; rintro e w3 ⟨v3, rfl, J3, K3⟩; obtain ⟨pa, pn, pc, rfl⟩ := owns_shapeK J3.it.1) | fail)
                go_meet
                exact ⟨_, _, pa, _, pc, keyL (actL room L z), rfl, by omega, ⟨X2.it.step K3.it (100 + 2 * N)⟩, ⟨T2.it.sn (I := fun _ => False) (Sn.quiet K3.it (100 + 2 * N)) (fun x => x) (fun _ x => x)⟩, ⟨li_of J3.it⟩, ⟨HB.it, by omega⟩⟩
          case rest =>
            obtain ⟨own6, L6, pa, pn, pc, ms, rfl, hl6, X6, T6, LI, HB6⟩ := hcut
            clear X1 T1 CB g0 g1 g2 g3 g4
            have KA : Aside (wc.ownsRow 0 39 1 (.slice qa N qc) N vs) := ⟨by have r := X6.it.ka.1; rw [HN.it] at r; exact r⟩
            have hb1 : (N + 1) * 24 ≤ 140737488355328 := by omega
            have hb2 : N + 1 ≤ maxLen := Nat.le_trans (show N + 1 ≤ 140737488355328 by omega) (by decide)
            have hb3 : (0 + ms.length) * 8 ≤ 140737488355328 := by have := HB6.it.2; omega
            have hb4 : 0 + ms.length ≤ maxLen := Nat.le_trans (show 0 + ms.length ≤ 140737488355328 by have := HB6.it.2; omega) (by decide)
            have pnl : Aside (pn = ms.length) := ⟨owns_len2 LI.it.1⟩
            generalize wc = W6 at *
            go_upto_region 21 with (first
              | (at_builtin; refine wpList_appendS rfl _ _ 38 rfl 39 (.slice none 0 0) 1 24 Tryd.underlying38 infoS rfl (by decide) W6 ((Keeps.refl _ _).alloc _) (.slice qa N qc) N vs KA.it _ 1 [.slice pa pn pc] (by decide) (reads_one W6 _) (by simp [Value.oneCell']) hb1 hb2 rfl rfl ?_
                 intro v7 w7 o7 sp7
                 obtain ⟨r1, r2, r3, hv7⟩ := owns_shapeK o7.it
                 subst hv7
                 obtain ⟨X7, S7⟩ := X6.it.push (W1 := W6.alloc (.cells #[.slice pa pn pc] 39)) (by rw [HN.it]; exact LI.it) HB6.it ((Keeps.refl _ _).alloc _) (by rw [HN.it]; exact o7.it) sp7.it
                 have X7 := Aside.mk X7
                 have T7 := Aside.mk (T6.it.sn S7 (by decide) (by omega))
                 have LI7 := Aside.mk (LI.it.sn S7 (by omega))
                 clear S7 o7 sp7
                 have OE := Aside.mk (ow_nil w7)
                 have RL := owns_readsK (owns_later LI7.it.1 ((Keeps.refl Nowhere w7).alloc (.cells #[] 3)) (fun _ _ x => x)))
              | (at_builtin; refine wpList_appendR rfl _ _ 39 rfl 3 (.int .i64 0) 1 8 Tryd.underlying39 infoK rfl (by decide) (w7.alloc (.cells #[] 3)) (Keeps.refl _ _) w7.heap.size _ 0 [] OE.it _ ms.length (ms.map mI) RL mI_one hb3 hb4 (by rw [World.size_alloc]; omega) rfl rfl ?_
                 intro v8 w8 o8 k8 b8
                 obtain ⟨p1, p2, p3, hv8⟩ := owns_shapeK o8.it
                 subst hv8
                 have K8 : Aside (Keeps Nowhere w7 w8) := ⟨((Keeps.refl Nowhere w7).alloc _).next k8.it (fun x e hlt => by simp [Value.ownBlock] at e; omega)⟩
                 have LI8 : Aside (Li (give (give own6 W6.heap.size 5) w7.heap.size (101 + 2 * N)) (101 + 2 * N) w8 (.slice p1 p2 p3) ms) := ⟨by
                   have r := o8.it
                   rw [List.nil_append, Nat.zero_add] at r
                   exact OwR.new r⟩
                 have X8 := Aside.mk (X7.it.step K8.it (101 + 2 * N))
                 have T8 := Aside.mk (T7.it.sn (I := fun _ => False) (Sn.quiet K8.it (101 + 2 * N)) (fun x => x) (fun _ x => x))
                 have TA := Aside.mk T8.it.ta.1)
              | (at_builtin; rw [HNT.it] at TA; refine wpList_appendS rfl _ _ 38 rfl 39 (.slice none 0 0) 1 24 Tryd.underlying38 infoS rfl (by decide) w8 ((Keeps.refl _ _).alloc _) (.slice ta N tc) N ts TA.it _ 1 [.slice p1 p2 p3] (by decide) (reads_one w8 _) (by simp [Value.oneCell']) hb1 hb2 rfl rfl ?_
                 intro v9 w9 o9 sp9
                 obtain ⟨s1, s2, s3, hv9⟩ := owns_shapeK o9.it
                 subst hv9
                 obtain ⟨T9, S9⟩ := T8.it.push (W1 := w8.alloc (.cells #[.slice p1 p2 p3] 39)) (by rw [HNT.it]; exact LI8.it) ((Keeps.refl _ _).alloc _) (by rw [HNT.it]; exact o9.it) sp9.it
                 have T9 := Aside.mk T9
                 have X9 := Aside.mk (X8.it.sn S9 (by decide) (by decide) (by decide) (by omega)))
              | fail)
            clear X8 T8 X7 T7 LI7 LI8 o9 sp9 S9 k8 b8 o8 RL OE TA K8 T6 X6 KA
            generalize (give (give (give own6 W6.heap.size 5) w7.heap.size (101 + 2 * N)) w8.heap.size 6) = own9 at X9 T9
            obtain ⟨f2, hf2⟩ : ∃ f2 : Nat → List Int, f2 = (fun k => if k = N then ms else f k) := ⟨_, rfl⟩
            rw [HN.it, ← hf2] at X9
            rw [HNT.it, ← hf2] at T9
            clear hf2
            obtain ⟨vs2, hvs2⟩ : ∃ vs2, vs2 = vs ++ [Value.slice pa pn pc] := ⟨_, rfl⟩
            obtain ⟨ts2, hts2⟩ : ∃ ts2, ts2 = ts ++ [Value.slice p1 p2 p3] := ⟨_, rfl⟩
            have HV2 : Aside (vs2.length = N + 1) := ⟨by rw [hvs2, List.length_append, HN.it]; rfl⟩
            have HT2 : Aside (ts2.length = N + 1) := ⟨by rw [hts2, List.length_append, HNT.it]; rfl⟩
            rw [← hvs2] at X9
            rw [← hts2] at T9
            clear hvs2 hts2
            have rl2 : r2 = N + 1 := by have := owns_len2 X9.it.ka.1; rw [HV2.it] at this; exact this
            have sl2 : s2 = N + 1 := by have := owns_len2 T9.it.ta.1; rw [HT2.it] at this; exact this
            subst rl2 sl2
            go_upto_region 22 with fail
            go_loopw [12] (fun jv wr => ∃ j : Nat, jv = .int .i64 j ∧ j ≤ N + 1 ∧ Aside (Keeps Nowhere w9 wr)) (fun jv _ => N + 1 - natI jv)
            case atStart => exact ⟨0, rfl, Nat.zero_le _, ⟨Keeps.refl _ _⟩⟩
            case round =>
              obtain ⟨j, rfl, hj, KJ⟩ := hrel
              rcases Nat.eq_or_lt_of_le hj with rfl | hjt
              · have e10 : ((N + 1 : Nat) : Int) = (N : Int) + 1 := by omega
                go_wp2_with fail
                go_roundw
                case rel => exact ⟨N + 1, own9, L6, r1, r3, s1, s3, vs2, ts2, f2, rfl, rfl, by go_num, by omega, by omega, HV2, HT2, ⟨X9.it.quiet KJ.it⟩, ⟨T9.it.sn (I := fun _ => False) (Sn.same KJ.it) (fun x => x) (fun _ x => x)⟩⟩
                case measure => simp [natI]; omega
              · have j1 : (j : Int) < ((N + 1 : Nat) : Int) := by omega
                have X10 := Aside.mk (X9.it.quiet KJ.it)
                have T10 := Aside.mk (T9.it.sn (I := fun _ => False) (Sn.same KJ.it) (fun x => x) (fun _ x => x))
                obtain ⟨u1, hu1⟩ : ∃ u, vs2[j]? = some u := ⟨_, List.getElem?_eq_getElem (by rw [HV2.it]; exact hjt)⟩
                obtain ⟨u2, hu2⟩ : ∃ u, ts2[j]? = some u := ⟨_, List.getElem?_eq_getElem (by rw [HT2.it]; exact hjt)⟩
                have Y1 := X10.it.kx j u1 hu1
                have Y2 := T10.it.tx j u2 hu2
                have hbj := (X10.it.kb j (by rw [HV2.it]; exact hjt)).1
                obtain ⟨d1, d2, ed1, _⟩ := Y1.shape
                obtain ⟨d3, d4, ed2, _⟩ := Y2.shape
                obtain ⟨ka, kc, ek, _, ck⟩ := rowL_cell X10.it.ka hu1
                obtain ⟨ka2, kc2, ek2, _, ck2⟩ := rowL_cell T10.it.ta hu2
                rw [HV2.it] at ek
                rw [HT2.it] at ek2
                injection ek with ek1 _ ek3
                injection ek2 with ek4 _ ek6
                subst ek1 ek3 ek4 ek6
                have SA := Aside.mk (same_ ((Y1.rdI hbj).quiet (Keeps.refl Nowhere wr).drew) ((Y2.rdI hbj).quiet (Keeps.refl Nowhere wr).drew))
                rw [decide_eq_true rfl] at SA
                subst ed1 ed2
                obtain ⟨fl, hfl⟩ : ∃ n, (f2 j).length = n := ⟨_, rfl⟩
                rw [hfl] at SA ck ck2
                have SC := And.intro (show wr.drew.cell? ⟨ka, j, none⟩ = some (.slice d1 fl d2) from ck) (show wr.drew.cell? ⟨ka2, j, none⟩ = some (.slice d3 fl d4) from ck2)
                clear Y1 Y2 hbj hu1 hu2 hfl ck ck2
                go_upto_region 24 with fail
                go_region_held_law (fun w' => w'.cell? ⟨ka, j, none⟩ = some (.slice d1 fl d2) ∧ w'.cell? ⟨ka2, j, none⟩ = some (.slice d3 fl d4)) (first | exact SC | exact SD) (first
                  | (go_at_call 14; refine SA.it.mono ?_; clear SA; rintro e w12 ⟨rfl, K12⟩
                     have SD : w12.cell? ⟨ka, j, none⟩ = some (.slice d1 fl d2) ∧ w12.cell? ⟨ka2, j, none⟩ = some (.slice d3 fl d4) := (by
                       exact ⟨by rw [World.cell?_of_block (w := wr.drew) (K12.it.block ka (World.block_lt_of_cell? wr.drew _ SC.1) (fun x => x))]; exact SC.1, by rw [World.cell?_of_block (w := wr.drew) (K12.it.block ka2 (World.block_lt_of_cell? wr.drew _ SC.2) (fun x => x))]; exact SC.2⟩))
                  | fail)
                go_wp2_with fail
                go_roundw
                case rel => exact ⟨j + 1, by go_num, hjt, ⟨(KJ.it.trans (Keeps.refl Nowhere wr).drew).trans K12.it⟩⟩
                case measure => simp [natI]; omega
        · rcases Nat.lt_or_ge N n1 with hm5 | hm5
          · obtain rfl : N = 200 := by omega
            have j4 : ((200 : Nat) : Int) < (n1 : Int) := by omega
            go_wp2_with fail
            go_meet
            exact ⟨200, own, L, qa, qc, vs, f, rfl, by omega, by omega, HN, X⟩
          · obtain rfl : N = n1 := by omega
            go_wp2_with fail
            go_meet
            exact ⟨N, own, L, qa, qc, vs, f, rfl, by omega, by omega, HN, X⟩
    case rest =>
      clear X3 T3
      obtain ⟨N, own, L, qa, qc, vs, f, rfl, hN, hL, HN, X⟩ := hcut
      have KY1 := Aside.mk (keys_o X.it.c (show L.length * 8 ≤ 140737488355328 by omega) (100 + 2 * N))
      have HKB := Aside.mk (key_i6 X.it.c.lok)
      have kll : (keyL L).length = L.length := keyL_len L
      obtain ⟨kl, hkl⟩ : ∃ kl, keyL L = kl := ⟨_, rfl⟩
      have HKL := Aside.mk hkl
      rw [hkl] at HKB kll
      clear hkl
      go_upto_region 27 with (first
        | (go_at_call 13; refine KY1.it.mono ?_; clear KY1; rintro e w1 ⟨va, rfl, JA, K1⟩; obtain ⟨pa, pn, pc, rfl⟩ := owns_shapeK JA.it.1
           have X1 := Aside.mk (X.it.step K1.it (100 + 2 * N))
           have KY2 := Aside.mk (keys_o X1.it.c (show L.length * 8 ≤ 140737488355328 by omega) (100 + 2 * (N + 1))))
        | (go_at_call 13; refine KY2.it.mono ?_; clear KY2; rintro e w2 ⟨vb, rfl, JB, K2⟩; obtain ⟨pb, pm, pd, rfl⟩ := owns_shapeK JB.it.1)
        | fail)
      have X2 := Aside.mk (X1.it.step K2.it (100 + 2 * (N + 1)))
      have LA : Aside (Li (give (give own wc.heap.size (100 + 2 * N)) w1.heap.size (100 + 2 * (N + 1))) (100 + 2 * N) w2 (.slice pa pn pc) kl) := ⟨by have r := li_of (JA.it.sn (I := fun _ => False) (Sn.quiet K2.it (100 + 2 * (N + 1))) (fun x => x)); rw [HKL.it] at r; exact r⟩
      have LB : Aside (Li (give (give own wc.heap.size (100 + 2 * N)) w1.heap.size (100 + 2 * (N + 1))) (100 + 2 * (N + 1)) w2 (.slice pb pm pd) kl) := ⟨by have r := li_of JB.it; rw [HKL.it] at r; exact r⟩
      clear X X1 JA JB K1 K2
      generalize give (give own wc.heap.size (100 + 2 * N)) w1.heap.size (100 + 2 * (N + 1)) = own2 at X2 LA LB
      have OE := Aside.mk (ow_nil w2)
      have RL := owns_readsK (owns_later LB.it.1 ((Keeps.refl Nowhere w2).alloc (.cells #[] 3)) (fun _ _ x => x))
      have hb3 : (0 + kl.length) * 8 ≤ 140737488355328 := by omega
      have hb4 : 0 + kl.length ≤ maxLen := Nat.le_trans (show 0 + kl.length ≤ 140737488355328 by omega) (by decide)
      go_upto_region 28 with (first
        | (at_builtin; refine wpList_appendR rfl _ _ 39 rfl 3 (.int .i64 0) 1 8 Tryd.underlying39 infoK rfl (by decide) (w2.alloc (.cells #[] 3)) (Keeps.refl _ _) w2.heap.size _ 0 [] OE.it _ kl.length (kl.map mI) RL mI_one hb3 hb4 (by rw [World.size_alloc]; omega) rfl rfl ?_
           intro v3 w3 o3 k3 b3
           obtain ⟨pw, pv, px, hv3⟩ := owns_shapeK o3.it
           subst hv3)
        | fail)
      have K3 : Aside (Keeps Nowhere w2 w3) := ⟨((Keeps.refl Nowhere w2).alloc _).next k3.it (fun x e hlt => by simp [Value.ownBlock] at e; omega)⟩
      have LW : Aside (Li (give own2 w2.heap.size 90) 90 w3 (.slice pw pv px) kl) := ⟨by
        have r := o3.it
        rw [List.nil_append, Nat.zero_add] at r
        exact OwR.new r⟩
      have X3 := Aside.mk (X2.it.step K3.it 90)
      have LA3 := Aside.mk (LA.it.sn (I := fun _ => False) (Sn.quiet K3.it 90) (fun x => x))
      have LB3 := Aside.mk (LB.it.sn (I := fun _ => False) (Sn.quiet K3.it 90) (fun x => x))
      clear o3 k3 b3 X2 LA LB OE RL K3
      generalize give own2 w2.heap.size 90 = own3 at X3 LA3 LB3 LW
      have KA : Aside (w3.ownsRow 0 39 1 (.slice qa N qc) N vs) := ⟨by have r := X3.it.ka.1; rw [HN.it] at r; exact r⟩
      have hb1 : (N + 1) * 24 ≤ 140737488355328 := by omega
      have hb2 : N + 1 ≤ maxLen := Nat.le_trans (show N + 1 ≤ 140737488355328 by omega) (by decide)
      go_upto_region 29 with (first
        | (at_builtin; refine wpList_appendS rfl _ _ 38 rfl 39 (.slice none 0 0) 1 24 Tryd.underlying38 infoS rfl (by decide) w3 ((Keeps.refl _ _).alloc _) (.slice qa N qc) N vs KA.it _ 1 [.slice pa pn pc] (by decide) (reads_one w3 _) (by simp [Value.oneCell']) hb1 hb2 rfl rfl ?_
           intro v4 w4 o4 sp4
           obtain ⟨r1, r2, r3, hv4⟩ := owns_shapeK o4.it
           subst hv4)
        | fail)
      obtain ⟨X4, S4⟩ := X3.it.push (W1 := w3.alloc (.cells #[.slice pa pn pc] 39)) (by rw [HN.it]; exact LA3.it) ⟨HKB.it, by omega⟩ ((Keeps.refl _ _).alloc _) (by rw [HN.it]; exact o4.it) sp4.it
      have X4 := Aside.mk X4
      have LB4 := Aside.mk (LB3.it.sn S4 (by omega))
      have LW4 := Aside.mk (LW.it.sn S4 (by decide))
      clear S4 o4 sp4 X3 LA3 LB3 LW KA
      generalize give own3 w3.heap.size 5 = own4 at X4 LB4 LW4
      obtain ⟨f4, hf4⟩ : ∃ f4 : Nat → List Int, f4 = (fun k => if k = vs.length then kl else f k) := ⟨_, rfl⟩
      obtain ⟨vs4, hvs4⟩ : ∃ vs4, vs4 = vs ++ [Value.slice pa pn pc] := ⟨_, rfl⟩
      have HV4 : Aside (vs4.length = N + 1) := ⟨by rw [hvs4, List.length_append, HN.it]; rfl⟩
      rw [← hf4, ← hvs4] at X4
      clear hf4 hvs4
      have rl2 : r2 = N + 1 := by have := owns_len2 X4.it.ka.1; rw [HV4.it] at this; exact this
      subst rl2
      have XC : Aside (Kc A w own4 w4 ca room L (.slice r1 (N + 1) r3) vs4 f4 (.slice pb pm pd) (.slice pw pv px) kl) := ⟨X4.it, by rw [HV4.it]; exact LB4.it, LW4.it⟩
      clear X4 LB4 LW4
      go_upto_block 5 with fail
      go_cut [] (fun wx => ∃ own, Aside (Kc A w own wx ca room L (.slice r1 (N + 1) r3) vs4 (fun k => List.replicate (f4 k).length (valO k)) (.slice pb pm pd) (.slice pw pv px) kl))
      case first =>
        go_wp2_with fail
        go_loopw [16] (fun iv wr => ∃ (i : Nat) (own : Nat → Nat), iv = .int .i64 i ∧ i ≤ N + 1 ∧ Aside (Kc A w own wr ca room L (.slice r1 (N + 1) r3) vs4 (fL valO f4 i 0) (.slice pb pm pd) (.slice pw pv px) kl)) (fun iv _ => N + 1 - natI iv)
        case atStart => exact ⟨0, _, rfl, Nat.zero_le _, ⟨XC.it.more (fun k _ => (fL_start f4 k).symm)⟩⟩
        case round =>
          clear XC
          obtain ⟨i, own, rfl, hi, P⟩ := hrel
          rcases Nat.eq_or_lt_of_le hi with rfl | hilt
          · have P1 : Aside (Kc A w own wr ca room L (.slice r1 (N + 1) r3) vs4 (fun k => List.replicate (f4 k).length (valO k)) (.slice pb pm pd) (.slice pw pv px) kl) := ⟨P.it.more (fun k hk => fL_end f4 (by rw [HV4.it] at hk; exact hk))⟩
            clear P
            have e10 : ((N + 1 : Nat) : Int) = (N : Int) + 1 := by omega
            go_wp2_with fail
            go_meet
            exact ⟨own, P1⟩
          · have i1 : (i : Int) < ((N + 1 : Nat) : Int) := by omega
            obtain ⟨v, hv⟩ : ∃ v, vs4[i]? = some v := ⟨_, List.getElem?_eq_getElem (by rw [HV4.it]; exact hilt)⟩
            obtain ⟨ab, ac, ea, hac, cv⟩ := rowL_cell P.it.k.ka hv
            injection ea with ea1 ea2 ea3
            subst ea1 ea3
            obtain ⟨va, vc, ev, hvc⟩ := (P.it.k.kx i v hv).shape
            have ni : (fL valO f4 i 0 i).length = (f4 i).length := fL_len f4 (Nat.zero_le _)
            rw [ni] at ev hvc
            have hfb := (P.it.k.kb i (by rw [HV4.it]; exact hilt)).2
            rw [ni] at hfb
            obtain ⟨M, hM⟩ : ∃ M, (f4 i).length = M := ⟨_, rfl⟩
            rw [hM] at ev hvc hfb
            have HM := Aside.mk hM
            subst ev
            have HV := Aside.mk hv
            have hN1 : vs4.length = N + 1 := HV4.it
            rw [hN1] at hac
            have hu : IntKind.i64.wrap (-1000 - (i : Int)) = -1000 - (i : Int) := by rw [IntKind.wrap_i64]; omega
            clear hv ni hM ea2 hN1
            go_upto_region 33 with fail
            clear cv
            go_loopw [17] (fun qv wr => ∃ (q : Nat) (own : Nat → Nat), qv = .int .i64 q ∧ q ≤ M ∧ Aside (Kc A w own wr ca room L (.slice (some ⟨ab, 0, none⟩) (N + 1) r3) vs4 (fL valO f4 i q) (.slice pb pm pd) (.slice pw pv px) kl)) (fun qv _ => M - natI qv)
            case atStart => exact ⟨0, own, rfl, Nat.zero_le _, P⟩
            case round =>
              clear P
              obtain ⟨q, own, rfl, hq, P⟩ := hrel
              obtain ⟨ab', ac', ea, _, cv⟩ := rowL_cell P.it.k.ka HV.it
              injection ea with ea1 _ _
              injection ea1 with ea1
              injection ea1 with ea1
              subst ea1
              rcases Nat.eq_or_lt_of_le hq with rfl | hqlt
              · have P2 : Aside (Kc A w own wr ca room L (.slice (some ⟨ab, 0, none⟩) (N + 1) r3) vs4 (fL valO f4 (i + 1) 0) (.slice pb pm pd) (.slice pw pv px) kl) := ⟨P.it.more (fun k _ => by rw [← HM.it]; exact fL_all f4 i k)⟩
                clear P
                go_wp2_with fail
                go_roundw
                case rel => exact ⟨i + 1, own, by go_num, by omega, P2⟩
                case measure => simp [natI]; omega
              · have q1' : (q : Int) < (M : Int) := by omega
                have XX := P.it.k.kx i _ HV.it
                rw [fL_at] at XX
                have pl : (partL (valO i) q (f4 i)).length = M := by rw [partL_len (by rw [HM.it]; exact hq)]; exact HM.it
                obtain ⟨b, c', u0, e1, fz, ce, XX2, S2⟩ := XX.put (i := q) (by rw [pl]; exact hqlt) (valO i)
                rw [pl] at e1
                injection e1 with e1 _ e2
                subst e1 e2
                rw [partL_step (by rw [HM.it]; exact hqlt)] at XX2
                have pl2 : (partL (valO i) (q + 1) (f4 i)).length = M := by rw [partL_len (by rw [HM.it]; exact hqlt)]; exact HM.it
                have hbv : ∀ y ∈ partL (valO i) (q + 1) (f4 i), I6 y := fun y hy => by
                  unfold partL at hy
                  rcases List.mem_append.1 hy with hy | hy
                  · rw [(List.mem_replicate.1 hy).2]; unfold valO; exact ⟨by omega, by omega⟩
                  · have h2 := (P.it.k.kb i (by rw [HV4.it]; exact hilt)).1
                    rw [fL_at] at h2
                    refine h2 y ?_
                    unfold partL
                    refine List.mem_append.2 (.inr ?_)
                    rw [← List.drop_drop] at hy
                    exact List.mem_of_mem_drop hy
                have P2 : Aside (Kc A w own (wr.setCell ⟨b, q, none⟩ (.int .i64 (-1000 - (i : Int)))) ca room L (.slice (some ⟨ab, 0, none⟩) (N + 1) r3) vs4 (fL valO f4 i (q + 1)) (.slice pb pm pd) (.slice pw pv px) kl) := ⟨(P.it.at S2 (by rw [HV4.it]; exact hilt) HV.it XX2 ⟨hbv, by rw [pl2]; exact hfb⟩).more (fun k _ => fL_step f4 i q k)⟩
                clear XX XX2 S2 pl pl2 P hbv
                go_wp2_with fail
                go_roundw
                case rel => exact ⟨q + 1, own, by go_num, by omega, P2⟩
                case measure => simp [natI]; omega
      case rest =>
        clear XC
        obtain ⟨own5, X5⟩ := hcut
        obtain ⟨P1, hP1⟩ : ∃ P1, N + 1 = P1 := ⟨_, rfl⟩
        rw [hP1] at HV4 X5 ⊢
        have hP : P1 ≤ 201 := by omega
        clear hP1 hb1 hb2 hb3 hb4
        have SA1 := Aside.mk (same_ (X5.it.b.rdI HKB.it) (X5.it.wt.rdI HKB.it))
        rw [decide_eq_true rfl] at SA1
        go_upto_region 38 with (first
          | (go_at_call 14; refine SA1.it.mono ?_; clear SA1; rintro e w6 ⟨rfl, K6⟩
             have X6 := Aside.mk (X5.it.quiet K6.it)
             have KY := Aside.mk (keys_o X6.it.k.c (show L.length * 8 ≤ 140737488355328 by omega) 91))
          | (go_at_call 13; refine KY.it.mono ?_; clear KY; rintro e w7 ⟨v7, rfl, J7, K7⟩; obtain ⟨t1, t2, t3, rfl⟩ := owns_shapeK J7.it.1
             have X7 := Aside.mk (X6.it.step K7.it 91)
             have L7 := li_of J7.it
             rw [HKL.it] at L7
             have SA2 := Aside.mk (same_ (L7.rdI HKB.it) (X7.it.wt.rdI HKB.it))
             rw [decide_eq_true rfl] at SA2
             clear L7 X6)
          | (go_at_call 14; refine SA2.it.mono ?_; clear SA2; rintro e w8 ⟨rfl, K8⟩)
          | fail)
        have X8 := Aside.mk (X7.it.quiet K8.it)
        clear X5 X7 J7 K6 K7 K8
        generalize give own5 w6.heap.size 91 = own8 at X8
        have KA : Aside (w8.ownsRow 0 39 1 (.slice r1 P1 r3) P1 vs4) := ⟨by have r := X8.it.k.ka.1; rw [HV4.it] at r; exact r⟩
        have hb1' : (P1 + 1) * 24 ≤ 140737488355328 := by omega
        have hb2' : P1 + 1 ≤ maxLen := Nat.le_trans (show P1 + 1 ≤ 140737488355328 by omega) (by decide)
        go_upto_region 39 with (first
          | (at_builtin; refine wpList_appendS rfl _ _ 38 rfl 39 (.slice none 0 0) 1 24 Tryd.underlying38 infoS rfl (by decide) w8 ((Keeps.refl _ _).alloc _) (.slice r1 P1 r3) P1 vs4 KA.it _ 1 [.slice pb pm pd] (by decide) (reads_one w8 _) (by simp [Value.oneCell']) hb1' hb2' rfl rfl ?_
             intro v9 w9 o9 sp9
             obtain ⟨s1, s2, s3, hv9⟩ := owns_shapeK o9.it
             subst hv9)
          | fail)
        obtain ⟨X9, S9⟩ := X8.it.k.push (W1 := w8.alloc (.cells #[.slice pb pm pd] 39)) X8.it.b ⟨HKB.it, by omega⟩ ((Keeps.refl _ _).alloc _) (by rw [HV4.it]; exact o9.it) sp9.it
        have pml : pm = kl.length := owns_len2 X8.it.b.1
        have LW9 := Aside.mk (X8.it.wt.sn S9 (by decide))
        obtain ⟨f5, hf5⟩ : ∃ f5 : Nat → List Int, f5 = (fun k => if k = vs4.length then kl else List.replicate (f4 k).length (valO k)) := ⟨_, rfl⟩
        obtain ⟨vs5, hvs5⟩ : ∃ vs5, vs5 = vs4 ++ [Value.slice pb pm pd] := ⟨_, rfl⟩
        have HV5 : Aside (vs5.length = P1 + 1) := ⟨by rw [hvs5, List.length_append, HV4.it]; rfl⟩
        have HB5 : Aside (vs5[P1]? = some (.slice pb pm pd)) := ⟨by rw [hvs5, List.getElem?_append_right (by rw [HV4.it]; exact Nat.le_refl _), HV4.it, Nat.sub_self]; rfl⟩
        have HF5 : Aside (f5 P1 = kl ∧ ∀ k, k < P1 → f5 k = List.replicate (f5 k).length (valO k)) := ⟨by
          rw [hf5]
          refine ⟨if_pos HV4.it.symm, fun k hk => ?_⟩
          have : ¬ k = vs4.length := by rw [HV4.it]; omega
          simp only [if_neg this, List.length_replicate]⟩
        rw [← hf5, ← hvs5] at X9
        have XG : Aside (Kg A w (give own8 w8.heap.size 5) w9 ca room L (.slice s1 s2 s3) vs5 f5 (.slice pw pv px) kl (.slice none 0 0) []) := ⟨X9, LW9.it, OwR.zero, fun k v e => by simp at e⟩
        have sl2 : s2 = P1 + 1 := by have := owns_len2 X9.ka.1; rw [HV5.it] at this; exact this
        clear hf5 hvs5 X9 S9 o9 sp9 X8 LW9 KA
        generalize give own8 w8.heap.size 5 = own9 at XG
        subst sl2 pml
        have hu : IntKind.i64.wrap (-1000 - (P1 : Int)) = -1000 - (P1 : Int) := by rw [IntKind.wrap_i64]; omega
        have hu2 : IntKind.i64.wrap (((P1 + 1 : Nat) : Int) - 1) = (P1 : Int) := by rw [IntKind.wrap_i64]; omega
        have n21 : ((P1 + 1 : Nat) : Int) - 1 = (P1 : Int) := by omega
        obtain ⟨P2, hP2⟩ : ∃ P2, P1 + 1 = P2 := ⟨_, rfl⟩
        rw [hP2] at HV5 XG hu2 n21 ⊢
        obtain ⟨bl, hbl⟩ : ∃ bl, kl.length = bl := ⟨_, rfl⟩
        have HBL := Aside.mk hbl
        have HP2 := Aside.mk hP2
        have hP2b : P2 ≤ 202 := by omega
        rw [hbl] at HB5 kll ⊢
        have hbl2 : bl ≤ 1000 := by omega
        clear hP2 hbl hb1' hb2' kll
        go_upto_block 9 with fail
        go_cut [] (fun wx => ∃ own, Aside (Kg A w own wx ca room L (.slice s1 P2 s3) vs5 (pF P1 kl f5 kl.length) (.slice pw pv px) kl (.slice none 0 0) []))
        case first =>
          go_wp2_with fail
          go_loopw [18] (fun iv wr => ∃ (i : Nat) (own : Nat → Nat), iv = .int .i64 i ∧ i ≤ bl ∧ Aside (Kg A w own wr ca room L (.slice s1 P2 s3) vs5 (pF P1 kl f5 i) (.slice pw pv px) kl (.slice none 0 0) [])) (fun iv _ => bl - natI iv)
          case atStart => exact ⟨0, _, rfl, Nat.zero_le _, ⟨XG.it.more (Nat.zero_le _) (fun k _ => pF_zero HF5.it.1 k)⟩⟩
          case round =>
            clear XG
            obtain ⟨i, own, rfl, hi, P⟩ := hrel
            rcases Nat.eq_or_lt_of_le hi with rfl | hilt
            · have P1' := P.it
              rw [← HBL.it] at P1'
              have PP := Aside.mk P1'
              clear P P1'
              go_wp2_with fail
              go_meet
              exact ⟨own, PP⟩
            · have i1 : (i : Int) < (bl : Int) := by omega
              have XX := P.it.k.kx P1 _ HB5.it
              rw [pF_at] at XX
              have pl : (partL (valO P1) i kl).length = bl := by rw [partL_len (by rw [HBL.it]; exact hi)]; exact HBL.it
              obtain ⟨b, c', u0, e1, fz, ce, XX2, S2⟩ := XX.put (i := i) (by rw [pl]; exact hilt) (valO P1)
              rw [pl] at e1
              injection e1 with e1 _ e2
              subst e1 e2
              rw [partL_step (by rw [HBL.it]; exact hilt)] at XX2
              have pl2 : (partL (valO P1) (i + 1) kl).length = bl := by rw [partL_len (by rw [HBL.it]; exact hilt)]; exact HBL.it
              have hbv : ∀ y ∈ partL (valO P1) (i + 1) kl, I6 y := fun y hy => by
                unfold partL at hy
                rcases List.mem_append.1 hy with hy | hy
                · rw [(List.mem_replicate.1 hy).2]; unfold valO; exact ⟨by omega, by omega⟩
                · exact HKB.it y (List.mem_of_mem_drop hy)
              have P2' : Aside (Kg A w own (wr.setCell ⟨b, i, none⟩ (.int .i64 (-1000 - (P1 : Int)))) ca room L (.slice s1 P2 s3) vs5 (pF P1 kl f5 (i + 1)) (.slice pw pv px) kl (.slice none 0 0) []) := ⟨(P.it.at S2 HB5.it XX2 ⟨hbv, by rw [pl2]; exact hbl2⟩).more (Nat.zero_le _) (fun k _ => pF_step P1 kl f5 i k)⟩
              clear XX XX2 S2 pl pl2 P hbv
              go_wp2_with fail
              go_roundw
              case rel => exact ⟨i + 1, own, by go_num, by omega, P2'⟩
              case measure => simp [natI]; omega
        case rest =>
          obtain ⟨own10, X10⟩ := hcut
          have HF7 : Aside (∀ k, k < P2 → pF P1 kl f5 kl.length k = List.replicate (pF P1 kl f5 kl.length k).length (valO k)) := ⟨by rw [← HP2.it]; exact pF_end HF5.it.2⟩
          generalize pF P1 kl f5 kl.length = f7 at X10 HF7
          clear XG hu hu2 n21
          go_upto_block 11 with fail
          go_cut [19] (fun gv wx => ∃ (own : Nat → Nat) (ga : Option Addr) (gc : Nat) (zs : List Value), gv = .slice ga P2 gc ∧ Aside (zs.length = P2) ∧ Aside (Kg A w own wx ca room L (.slice s1 P2 s3) vs5 f7 (.slice pw pv px) kl (.slice ga P2 gc) zs))
          case first =>
            go_wp2_with fail
            go_loopw [19, 20] (fun gv jv wr => ∃ (j : Nat) (own : Nat → Nat) (ga : Option Addr) (gc : Nat) (zs : List Value), gv = .slice ga j gc ∧ jv = .int .i64 j ∧ j ≤ P2 ∧ Aside (zs.length = j) ∧ Aside (Kg A w own wr ca room L (.slice s1 P2 s3) vs5 f7 (.slice pw pv px) kl (.slice ga j gc) zs)) (fun _ jv _ => P2 - natI jv)
            case atStart => exact ⟨0, _, none, 0, [], rfl, rfl, Nat.zero_le _, ⟨rfl⟩, X10⟩
            case round =>
              clear X10
              obtain ⟨j, own, ga, gc, zs, rfl, rfl, hj, HZ, P⟩ := hrel
              rcases Nat.eq_or_lt_of_le hj with rfl | hjt
              · go_wp2_with fail
                go_meet
                exact ⟨own, ga, gc, zs, rfl, HZ, P⟩
              · have j1 : (j : Int) < (P2 : Int) := by omega
                obtain ⟨v, hv⟩ : ∃ v, vs5[j]? = some v := ⟨_, List.getElem?_eq_getElem (by rw [HV5.it]; exact hjt)⟩
                obtain ⟨ab, ac, ea, hac, cv⟩ := rowL_cell P.it.k.ka hv
                injection ea with ea1 ea2 ea3
                subst ea1 ea3
                have X0 := P.it.k.kx j v hv
                obtain ⟨va, vc, ev, hvc⟩ := X0.shape
                have hfb := (P.it.k.kb j (by rw [HV5.it]; exact hjt)).2
                have G0 := Aside.mk (Grows.start X0 (101 + 2 * j))
                obtain ⟨M, hM⟩ : ∃ M, (f7 j).length = M := ⟨_, rfl⟩
                rw [hM] at ev hvc hfb G0
                have HM := Aside.mk hM
                subst ev
                have HV := Aside.mk hv
                have hN1 : vs5.length = P2 := HV5.it
                rw [hN1] at hac
                have hw9 : IntKind.i64.wrap (-9 - (j : Int)) = -9 - (j : Int) := by rw [IntKind.wrap_i64]; omega
                clear hv hM ea2 hN1 X0
                go_upto_block 13 with fail
                clear cv
                go_wp2_with fail
                go_loopw [21, 22] (fun gv qv wr => ∃ (q : Nat) (own : Nat → Nat) (g1 : Option Addr) (g3 : Nat), gv = .slice g1 (M + q) g3 ∧ qv = .int .i64 q ∧ q ≤ 40 ∧ Aside (Kg A w own wr ca room L (.slice (some ⟨ab, 0, none⟩) P2 s3) vs5 f7 (.slice pw pv px) kl (.slice ga j gc) zs) ∧ Aside (Grows own wr 3 1 (.slice va M vc) M ((f7 j).map mI) (101 + 2 * j) (.slice g1 (M + q) g3) q (List.replicate q (mI (-9 - (j : Int)))))) (fun _ qv _ => 40 - natI qv)
                case atStart => exact ⟨0, own, va, vc, rfl, rfl, Nat.zero_le _, P, G0⟩
                case round =>
                  clear P G0
                  obtain ⟨q, own, g1, g3, rfl, rfl, hq, P, G⟩ := hrel
                  rcases Nat.eq_or_lt_of_le hq with rfl | hqlt
                  · obtain ⟨gl, hgl⟩ : ∃ gl, M + 40 = gl := ⟨_, rfl⟩
                    rw [hgl] at G ⊢
                    have GA : Aside (wr.ownsRow 0 39 1 (.slice ga j gc) j zs) := ⟨by have r := P.it.ga.1; rw [HZ.it] at r; exact r⟩
                    have hb5 : (j + 1) * 24 ≤ 140737488355328 := by omega
                    have hb6 : j + 1 ≤ maxLen := Nat.le_trans (show j + 1 ≤ 140737488355328 by omega) (by decide)
                    clear hgl
                    go_wp2_with (first
                      | (at_builtin; refine wpList_appendS rfl _ _ 38 rfl 39 (.slice none 0 0) 1 24 Tryd.underlying38 infoS rfl (by decide) wr ((Keeps.refl _ _).alloc _) (.slice ga j gc) j zs GA.it _ 1 [.slice g1 gl g3] (by decide) (reads_one wr _) (by simp [Value.oneCell']) hb5 hb6 rfl rfl ?_
                         intro v9 w9 o9 sp9
                         obtain ⟨t1, t2, t3, hv9⟩ := owns_shapeK o9.it
                         subst hv9)
                      | fail)
                    have h1 : vs5[zs.length]? = some (.slice va M vc) := by rw [HZ.it]; exact HV.it
                    have h2 : Grows own wr 3 1 (.slice va M vc) (f7 zs.length).length ((f7 zs.length).map mI) (101 + 2 * zs.length) (.slice g1 gl g3) 40 (List.replicate 40 (mI (-9 - (zs.length : Int)))) := by rw [HZ.it, HM.it]; exact G.it
                    have h3 : w9.ownsRow 0 39 1 (.slice t1 t2 t3) (zs.length + 1) (zs ++ [Value.slice g1 gl g3]) := by rw [HZ.it]; exact o9.it
                    have PP := Aside.mk (P.it.push h1 h2 ((Keeps.refl Nowhere wr).alloc (.cells #[.slice g1 gl g3] 39)) h3 sp9.it)
                    clear h1 h2 h3
                    have HZ2 : Aside ((zs ++ [Value.slice g1 gl g3]).length = j + 1) := ⟨by rw [List.length_append, HZ.it]; rfl⟩
                    have tl2 : t2 = j + 1 := owns_len2 o9.it
                    subst tl2
                    clear o9 sp9 P G GA
                    go_roundw
                    case rel => exact ⟨j + 1, _, t1, t3, _, rfl, by go_num, by omega, HZ2, PP⟩
                    case measure => simp [natI]; omega
                  · have q1' : (q : Int) < 40 := by omega
                    obtain ⟨gl, hgl⟩ : ∃ gl, M + q = gl := ⟨_, rfl⟩
                    have HGL := Aside.mk hgl
                    have OG : Aside (wr.ownsRow 0 3 1 (.slice g1 gl g3) gl ((f7 j).map mI ++ List.replicate q (mI (-9 - (j : Int))))) := ⟨by have r := G.it.1; rw [hgl] at r; exact r⟩
                    have X0 : Aside (OwR own (100 + 2 * j) wr 3 1 (.slice va M vc) M ((f7 j).map mI)) := ⟨by have r : OwR own (100 + 2 * j) wr 3 1 (.slice va M vc) (f7 j).length ((f7 j).map mI) := P.it.k.kx j _ HV.it; rw [HM.it] at r; exact r⟩
                    have hb5 : (gl + 1) * 8 ≤ 140737488355328 := by omega
                    have hb6 : gl + 1 ≤ maxLen := Nat.le_trans (show gl + 1 ≤ 140737488355328 by omega) (by decide)
                    rw [hgl] at G ⊢
                    clear hgl
                    go_wp2_with (first
                      | (at_builtin; refine wpList_appendS rfl _ _ 39 rfl 3 (.int .i64 0) 1 8 Tryd.underlying39 infoK rfl (by decide) wr ((Keeps.refl _ _).alloc _) (.slice g1 gl g3) gl _ OG.it _ 1 [.int .i64 (-9 - (j : Int))] (by decide) (reads_one wr _) (by simp [Value.oneCell']) hb5 hb6 rfl rfl ?_
                         intro v9 w9 o9 sp9
                         obtain ⟨t1, t2, t3, hv9⟩ := owns_shapeK o9.it
                         subst hv9)
                      | fail)
                    have hml : ((f7 j).map mI).length = M * 1 := by rw [List.length_map, HM.it, Nat.mul_one]
                    obtain ⟨X2, G2, S2⟩ := Grows.app (gv' := .slice t1 t2 t3) (zs := [mI (-9 - (j : Int))]) (W := wr.alloc (.cells #[.int .i64 (-9 - (j : Int))] 3)) X0.it hml (by rw [← HGL.it] at G; exact G.it) (by omega) ((Keeps.refl _ _).alloc _) (by rw [HGL.it]; exact o9.it) (by rw [← HGL.it] at sp9; exact sp9.it)
                    rw [← List.replicate_succ'] at G2
                    have h1 : vs5[zs.length]? = some (.slice va M vc) := by rw [HZ.it]; exact HV.it
                    obtain ⟨own2, hown2⟩ : ∃ own2, give own wr.heap.size (101 + 2 * j) = own2 := ⟨_, rfl⟩
                    rw [hown2] at X2 G2 S2
                    have h2 : Sn (fun p => p = 101 + 2 * zs.length ∨ p = 100 + 2 * zs.length) own wr own2 w9 := by rw [HZ.it]; exact S2
                    have h3 : Li own2 (100 + 2 * zs.length) w9 (.slice va M vc) (f7 zs.length) := by
                      rw [HZ.it]
                      have r : OwR own2 (100 + 2 * j) w9 3 1 (.slice va M vc) (f7 j).length ((f7 j).map mI) := by rw [HM.it]; exact X2
                      exact r
                    have PP := Aside.mk (P.it.grow h2 h1 h3)
                    clear h1 h2 h3 hown2
                    have tl2 : t2 = M + (q + 1) := by have := owns_len2 o9.it; have := HGL.it; omega
                    subst tl2
                    have GG := Aside.mk G2
                    clear o9 sp9 P G OG X0 X2 G2 S2
                    go_roundw
                    case rel => exact ⟨q + 1, _, t1, t3, rfl, by go_num, by omega, PP, GG⟩
                    case measure => simp [natI]; omega
          case rest =>
            obtain ⟨own11, ga, gc, zs, rfl, HZ, X11⟩ := hcut
            clear X10
            go_upto_block 15 with fail
            go_cut [] (fun wx => Aside (Kg A w own11 wx ca room L (.slice s1 P2 s3) vs5 f7 (.slice pw pv px) kl (.slice ga P2 gc) zs))
            case first =>
              go_wp2_with fail
              go_loopw [23] (fun jv wr => ∃ (j : Nat), jv = .int .i64 j ∧ j ≤ P2 ∧ Aside (Kg A w own11 wr ca room L (.slice s1 P2 s3) vs5 f7 (.slice pw pv px) kl (.slice ga P2 gc) zs)) (fun jv _ => P2 - natI jv)
              case atStart => exact ⟨0, rfl, Nat.zero_le _, X11⟩
              case round =>
                clear X11
                obtain ⟨j, rfl, hj, P⟩ := hrel
                rcases Nat.eq_or_lt_of_le hj with rfl | hjt
                · go_wp2_with fail
                  go_meet
                  exact P
                · have j1 : (j : Int) < (P2 : Int) := by omega
                  obtain ⟨v, hv⟩ : ∃ v, vs5[j]? = some v := ⟨_, List.getElem?_eq_getElem (by rw [HV5.it]; exact hjt)⟩
                  obtain ⟨ab, ac, ea, hac, cv⟩ := rowL_cell P.it.k.ka hv
                  injection ea with ea1 ea2 ea3
                  subst ea1 ea3
                  obtain ⟨gv, hg⟩ : ∃ v, zs[j]? = some v := ⟨_, List.getElem?_eq_getElem (by rw [HZ.it]; exact hjt)⟩
                  obtain ⟨gb, gc', eg, hgc, cg⟩ := rowL_cell P.it.ga hg
                  rw [HZ.it] at eg
                  injection eg with eg1 eg2 eg3
                  subst eg1 eg3
                  have X0 := Aside.mk (P.it.k.kx j v hv)
                  have Y0 := Aside.mk (P.it.gx j gv hg)
                  obtain ⟨va, vc, ev, hvc⟩ := X0.it.shape
                  obtain ⟨yb, yc, ey, _⟩ := Y0.it.cell (i := (f7 j).length) (Nat.le_refl _) (by omega)
                  have hfb := (P.it.k.kb j (by rw [HV5.it]; exact hjt)).2
                  have hfv := HF7.it j hjt
                  obtain ⟨M, hM⟩ : ∃ M, (f7 j).length = M := ⟨_, rfl⟩
                  rw [hM] at ev hvc hfb ey
                  have HM := Aside.mk hM
                  have HFV := Aside.mk hfv
                  subst ev ey
                  have hw9 : IntKind.i64.wrap (-9 - (j : Int)) = -9 - (j : Int) := by rw [IntKind.wrap_i64]; omega
                  have hw10 : IntKind.i64.wrap (-1000 - (j : Int)) = -1000 - (j : Int) := by rw [IntKind.wrap_i64]; omega
                  have hwm : IntKind.i64.wrap ((M : Int) + 40) = (M : Int) + 40 := by rw [IntKind.wrap_i64]; omega
                  have eq1 : ((-1000 - (j : Int)) == (-1000 - (j : Int))) = true := by simp
                  have eq2 : ((-9 - (j : Int)) == (-9 - (j : Int))) = true := by simp
                  have CVG := Aside.mk (And.intro cv cg)
                  have hjs : vs5.length = P2 := HV5.it
                  rw [hjs] at hac
                  have hjz : zs.length = P2 := HZ.it
                  rw [hjz] at hgc
                  clear hv hg hM hfv ea2 eg2 hjs hjz
                  go_upto_region 58 with fail
                  go_loopw [25] (fun qv wx => ∃ q : Nat, qv = .int .i64 q ∧ q ≤ M ∧ wx = wr) (fun qv _ => M - natI qv)
                  case atStart => exact ⟨0, rfl, Nat.zero_le _, rfl⟩
                  case round =>
                    obtain ⟨q, rfl, hq, rfl⟩ := hrel
                    obtain ⟨cv, cg⟩ := CVG.it
                    rcases Nat.eq_or_lt_of_le hq with rfl | hqlt
                    · go_upto_region 63 with fail
                      go_loopw [26] (fun qv wx => ∃ r : Nat, qv = .int .i64 ((q + r : Nat) : Int) ∧ r ≤ 40 ∧ wx = wr) (fun qv _ => q + 40 - natI qv)
                      case atStart => exact ⟨0, rfl, Nat.zero_le _, rfl⟩
                      case round =>
                        obtain ⟨r, rfl, hr40, rfl⟩ := hrel
                        obtain ⟨cv, cg⟩ := CVG.it
                        rcases Nat.eq_or_lt_of_le hr40 with rfl | hrlt
                        · have e40 : ((q + 40 : Nat) : Int) = (q : Int) + 40 := by omega
                          rw [e40]
                          go_wp2_with fail
                          go_roundw
                          case rel => exact ⟨j + 1, by go_num, by omega, P⟩
                          case measure => simp [natI]; omega
                        · obtain ⟨yb', yc', ey, cy⟩ := Y0.it.cell (i := q + r) (by rw [HM.it]; omega) (by rw [HM.it]; omega)
                          rw [HM.it] at ey
                          injection ey with ey1 _ _
                          injection ey1 with ey1
                          injection ey1 with ey1
                          subst ey1
                          obtain ⟨z, hz⟩ : ∃ z, q + r = z := ⟨_, rfl⟩
                          rw [hz] at cy ⊢
                          have hz1 : (z : Int) < (q : Int) + 40 := by omega
                          have hz2 : z < q + 40 := by omega
                          have HZZ := Aside.mk hz
                          clear hz
                          go_wp2_with fail
                          go_roundw
                          case rel => exact ⟨r + 1, by have := HZZ.it; go_num, by omega, by trivial⟩
                          case measure => have := HZZ.it; simp [natI]; omega
                    · have q1' : (q : Int) < (M : Int) := by omega
                      have hx : (f7 j)[q]? = some (valO j) := by rw [HFV.it]; exact rep_at (by rw [HM.it]; exact hqlt)
                      obtain ⟨xb, xc, ex, cx⟩ := X0.it.cell hx
                      rw [HM.it] at ex
                      injection ex with ex1 _ ex2
                      subst ex1 ex2
                      clear hx
                      go_wp2_with fail
                      go_roundw
                      case rel => exact ⟨q + 1, by go_num, by omega, by trivial⟩
                      case measure => simp [natI]; omega
            case rest =>
              have X12 := hcut
              clear X11
              have KY := Aside.mk (keys_o X12.it.k.c (show L.length * 8 ≤ 140737488355328 by omega) 91)
              go_wp2_with (first
                | (go_at_call 13; refine KY.it.mono ?_; clear KY; rintro e w7 ⟨v7, rfl, J7, K7⟩; obtain ⟨t1, t2, t3, rfl⟩ := owns_shapeK J7.it.1
                   have X7 := Aside.mk (X12.it.step K7.it 91)
                   have L7 := li_of J7.it
                   rw [HKL.it] at L7
                   have SA2 := Aside.mk (same_ (L7.rdI HKB.it) (X7.it.wt.rdI HKB.it))
                   rw [decide_eq_true rfl] at SA2
                   clear L7)
                | (go_at_call 14; refine SA2.it.mono ?_; clear SA2; rintro e w8 ⟨rfl, K8⟩)
                | fail)
              go_ret
              exact ⟨rfl, (X7.it.quiet K8.it).k.og.g.bel⟩
end Go.Proofs.YtcmgmhdlokcgbabDoor
