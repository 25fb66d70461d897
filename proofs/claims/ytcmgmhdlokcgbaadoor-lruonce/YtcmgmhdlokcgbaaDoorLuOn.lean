/-
  LruOnce
-/
import Derived.Test.YtcmgmhdlokcgbaaDoorLuN
import Derived.Test.YtcmgmhdlokcgbaaDoorLuS
import Derived.BigRegion
namespace Go.Proofs.YtcmgmhdlokcgbaaDoor
open Go.RowKit Lulnn

variable {w w' w0 W : World} {own own' : Nat → Nat} {i c o j ca cb b q n : Nat} {room k now : Int} {L M La Lb : List Rx} {I : Nat → Prop} {A : Nat → Addr} {x y : Rx} {z : Oz} {v va vb : Value} {ks ms : List Int}

structure Cw (A : Nat → Addr) (w : World) (own : Nat → Nat) (W : World) (ca : Nat) (room : Int) (La : List Rx) : Prop where
  og : OnG A w own W
  a : CaO own 1 W ca room La
theorem Cw.sn (h : Cw A w own W ca room La) (s : Sn I own W own' w') (h0 : ¬ I 0) (h1 : ¬ I 1) : Cw A w own' w' ca room La := ⟨h.og.sn s h0, h.a.sn s h1⟩
theorem Cw.quiet (h : Cw A w own W ca room La) (hk : Keeps Nowhere W w') : Cw A w own w' ca room La := h.sn (I := fun _ => False) (Sn.same hk) (fun x => x) (fun x => x)
theorem cw1 (h : Aside (Cw A w own W ca room La)) (hz : z.Ok) (hm : La.length * 8 ≤ 140737488355328) : Calls Tryd.prog 25 #[ptr ca, z.agg] W fun e w' => e = .returned (.tuple #[]) ∧ ∃ own', Aside (Cw A w own' w' ca room (actL room La z)) ∧ Aside (Sn (fun x => x = 1) own W own' w') := by
  refine (act_ h.it.a h.it.og.sents hz hm).mono ?_
  rintro e w' ⟨own', rfl, J, S⟩
  exact ⟨rfl, own', ⟨h.it.og.sn S.it (by decide), J.it⟩, S⟩
/-- how often a key has been seen: once or never -/
def onceF (ks : List Int) (j : Nat) (k : Int) : Int := if k ∈ ks.take j then 1 else 0
theorem onceF_new (h : ks.Nodup) (hj : ks[j]? = some k) : onceF ks j k = 0 := by
  unfold onceF
  refine if_neg fun hm => ?_
  obtain ⟨i, hi⟩ := List.mem_iff_getElem?.1 hm
  rw [List.getElem?_take] at hi
  split at hi
  · have : i = j := (List.getElem?_inj (List.getElem?_eq_some_iff.1 hi).1 h).1 (hi.trans hj.symm)
    omega
  · cases hi
theorem onceF_next (hj : ks[j]? = some k) : (fun k' => if k' = k then (1 : Int) else onceF ks j k') = onceF ks (j + 1) := by
  funext k'
  unfold onceF
  rw [iv_take_snoc hj]
  by_cases e : k' = k
  · rw [if_pos e, e, if_pos (by simp)]
  · rw [if_neg e]
    simp [e]
theorem has_mem (L : List Rx) (k : Int) : hasL L k = decide (k ∈ keyL L) := by
  unfold hasL
  cases h : findL L k with
  | none => rw [decide_eq_false (findL_none h)]; rfl
  | some x =>
    obtain ⟨h1, h2⟩ := findL_some h
    have hm : k ∈ keyL L := List.mem_map.2 ⟨x, h1, h2⟩
    rw [decide_eq_true hm]; rfl
set_option maxHeartbeats 4000000 in
set_option maxRecDepth 20000 in
theorem lruOnce_walk {A : Nat → Addr} (room : Int) (v1 : Value) (ys : List Oz) (w : World) (hs : Sents 170 codeVars A w) (hwf : (Lit.int .i64 room).wf = true) (h1 : Ops28Arg w v1 ys) :
    Calls Tryd.prog 6 #[.int .i64 room, v1] w fun e w' => e = .returned (.bool true) ∧ Below w.heap.size w w' := by
  have AW := Aside.mk (awake_ok hs)
  have hr : I6 room := lu_wf hwf
  have HS := Aside.mk hs
  clear hs hwf
  rcases Int.lt_or_le room 0 with hneg | hpos
  · go_enter Tryd.func6, Tryd.ntmps6
    go_upto_region 3 with (first | (go_at_call 9; refine AW.it.mono ?_; clear AW; rintro e w1 ⟨rfl, K1⟩) | fail)
    have N1 := Aside.mk (new_neg (HS.it.later K1.it.bel) hneg)
    go_upto_region 4 with (first | (go_at_call 10; refine N1.it.mono ?_; clear N1; rintro e w2 ⟨rfl, K2⟩) | fail)
    go_wp2_with fail
    go_ret
    exact ⟨rfl, (K1.it.trans K2.it).bel⟩
  · obtain ⟨L1, B1⟩ := h1
    have C1 := L1
    obtain ⟨q1, c1, rfl, hc1, hx1, _⟩ := C1
    have O1 := Aside.mk (fun i z (hi : ys[i]? = some z) => oz_at L1 hi)
    clear L1
    obtain ⟨n1, hn1⟩ : ∃ n, ys.length = n := ⟨_, rfl⟩
    have E1 := Aside.mk hn1
    rw [hn1] at B1 hc1 ⊢
    clear hn1
    have mx : maxLen ≤ 9223372036854775807 := by decide
    have hmk : ∀ w, (Instr.makeMap 42 none).run Tryd.prog w = .ok (.map (some w.heap.size)) (w.alloc (.map #[] 0)) := fun w => by kernel_rfl
    go_enter Tryd.func6, Tryd.ntmps6
    go_upto_region 3 with (first | (go_at_call 9; refine AW.it.mono ?_; clear AW; rintro e w1 ⟨rfl, K1⟩) | fail)
    have G1 := Aside.mk ((OnG.start HS.it).quiet K1.it)
    have N1 := Aside.mk (new_pos (fun _ => 0) 1 w1 hpos hr.2)
    go_upto_region 4 with (first | (go_at_call 10; refine N1.it.mono ?_; clear N1; rintro e w2 ⟨ca, rfl, A2, K2⟩) | fail)
    have X3 : Aside (Cw A w (give (fun _ => 0) w1.heap.size 1) w2 ca room []) := ⟨G1.it.sn (I := fun _ => False) (Sn.quiet K2.it 1) (fun x => x), A2.it⟩
    generalize give (fun _ => 0) w1.heap.size 1 = own0 at X3
    clear G1 A2 K1 K2
    go_upto_region 7 with fail
    go_loopw [7] (fun iv wr => ∃ (m : Nat) (own : Nat → Nat) (La : List Rx), iv = .int .i64 m ∧ (m ≤ n1 ∧ m ≤ 1000) ∧ La.length ≤ m ∧ Aside (Cw A w own wr ca room La)) (fun iv _ => n1 - natI iv)
    case atStart => exact ⟨0, own0, [], rfl, ⟨Nat.zero_le _, Nat.zero_le _⟩, Nat.le_refl _, X3⟩
    case round =>
      clear X3
      obtain ⟨m, own, La, rfl, hm, hla, X⟩ := hrel
      by_cases hlt : m < n1 ∧ m < 1000
      · have k1 : (m : Int) < (n1 : Int) := by omega
        have k2 : (m : Int) < 1000 := by omega
        obtain ⟨z, hz⟩ : ∃ z, ys[m]? = some z := ⟨_, List.getElem?_eq_getElem (by rw [E1.it]; exact hlt.1)⟩
        obtain ⟨b, o, rfl, op0⟩ := O1.it m z hz
        obtain ⟨g0, g1, g2, g3, g4, zok⟩ := op0.later X.it.og.g.bel
        clear op0 hz
        have KB : Aside (Keeps Nowhere wr (wr.alloc (.cells #[.int .i64 z.kd, .int .i64 z.k, .int .i64 z.v, .int .i64 z.w, .int .i64 z.u] 38))) := ⟨(Keeps.refl _ _).alloc _⟩
        have CB : Aside (CellsO (give own wr.heap.size 8) 8 (wr.alloc (.cells #[.int .i64 z.kd, .int .i64 z.k, .int .i64 z.v, .int .i64 z.w, .int .i64 z.u] 38)) wr.heap.size 38 z.cells) := ⟨Cells.new wr _ _, give_new (Nat.le_refl _)⟩
        have X1 := Aside.mk (X.it.sn (I := fun _ => False) (Sn.quiet KB.it 8) (fun x => x) (fun x => x))
        go_upto_region 10 with fail
        generalize wr.alloc (.cells #[.int .i64 z.kd, .int .i64 z.k, .int .i64 z.v, .int .i64 z.w, .int .i64 z.u] 38) = W1 at CB X1 ⊢
        generalize give own wr.heap.size 8 = own1 at CB X1
        clear KB X
        generalize wr.heap.size = ob at CB ⊢
        clear g0 g1 g2 g3 g4
        have g0 : W1.cell? ⟨ob, 0, none⟩ = some (.int .i64 z.kd) := CB.it.1.cell 0
        have g1 : W1.cell? ⟨ob, 1, none⟩ = some (.int .i64 z.k) := CB.it.1.cell 1
        have g2 : W1.cell? ⟨ob, 2, none⟩ = some (.int .i64 z.v) := CB.it.1.cell 2
        have g3 : W1.cell? ⟨ob, 3, none⟩ = some (.int .i64 z.w) := CB.it.1.cell 3
        have g4 : W1.cell? ⟨ob, 4, none⟩ = some (.int .i64 z.u) := CB.it.1.cell 4
        have T1 := Aside.mk (cw1 X1 zok (by omega))
        have hal := actL_len room La z
        go_upto_region 11 with (first | (go_at_call 25; refine T1.it.mono ?_; clear T1; rintro e w5 ⟨rfl, own5, X5, S5⟩) | fail)
        clear g0 g1 g2 g3 g4
        have CB5 := Aside.mk (CB.it.sn S5.it (by decide))
        generalize actL room La z = L5 at X5 hal
        have KM : Aside (Keeps Nowhere w5 (w5.alloc (.map #[] 0))) := ⟨(Keeps.refl _ _).alloc _⟩
        have M6 := Aside.mk (MapN.made w5)
        have X6 := Aside.mk (X5.it.sn (I := fun _ => False) (Sn.quiet KM.it 8) (fun x => x) (fun x => x))
        have CB6 := Aside.mk (CB5.it.sn (I := fun _ => False) (Sn.quiet KM.it 8) (fun x => x))
        have OM : Aside (give own5 w5.heap.size 8 w5.heap.size = 8) := ⟨give_new (Nat.le_refl _)⟩
        go_upto_region 12 with fail
        generalize w5.alloc (.map #[] 0) = w6 at M6 X6 CB6 ⊢
        generalize give own5 w5.heap.size 8 = own6 at X6 CB6 OM
        clear KM X5 CB5 CB S5 X1
        generalize w5.heap.size = mb at M6 OM ⊢
        have KY := Aside.mk (keys_o X6.it.a (show L5.length * 8 ≤ 140737488355328 by omega) 5)
        go_upto_region 13 with (first | (go_at_call 26; refine KY.it.mono ?_; clear KY; rintro e w7 ⟨va, rfl, R7, K7⟩; obtain ⟨pa, pl, pc, rfl⟩ := owns_shapeK R7.it.1) | fail)
        have X7 := Aside.mk (X6.it.sn (I := fun _ => False) (Sn.quiet K7.it 5) (fun x => x) (fun x => x))
        have CB7 := Aside.mk (CB6.it.sn (I := fun _ => False) (Sn.quiet K7.it 5) (fun x => x))
        have M7 := Aside.mk (M6.it.later (S := Nowhere) K7.it (fun x => x))
        have OM7 : Aside (give own6 w6.heap.size 5 mb = 8) := ⟨(give_old M6.it.lt).trans OM.it⟩
        generalize give own6 w6.heap.size 5 = own7 at R7 X7 CB7 OM7
        clear X6 CB6 M6 OM K7
        have ND := Aside.mk X7.it.a.lok.one
        have HB := Aside.mk (fun x hx => (X7.it.a.lok.ok x hx).k)
        have RK := Aside.mk (keys_rdI R7.it.1 HB.it)
        obtain ⟨pa', pc', he, hpl, hpm, hpr⟩ := RK.it
        injection he with he1 he2 he3
        subst he1 he2 he3
        have RR := Aside.mk hpr
        clear hpr RK
        have hkl : (keyL L5).length = L5.length := keyL_len L5
        obtain ⟨ks, hks⟩ : ∃ ks, keyL L5 = ks := ⟨_, rfl⟩
        have HKS := Aside.mk hks
        rw [hks] at ND RR hpl hkl ⊢
        obtain ⟨nk, hnk⟩ : ∃ nk, ks.length = nk := ⟨_, rfl⟩
        have HNK := Aside.mk hnk
        rw [hnk] at hpl hkl ⊢
        clear hks hnk
        have BL : Aside (∀ wx, Keeps (fun x => x = mb) w7 wx → Sn (fun x => x = 8) own7 w7 own7 wx) := ⟨fun wx k => ⟨fun _ _ => rfl, k.mono (fun x e _ => by rw [e]; exact OM7.it)⟩⟩
        have RX : Aside (∀ wx, Keeps (fun x => x = mb) w7 wx → ∀ (j : Nat) (y : Int), ks[j]? = some y → I6 y ∧ ∃ sb so, pa = some ⟨sb, so, none⟩ ∧ wx.cell? ⟨sb, so + j, none⟩ = some (.int .i64 y)) := ⟨fun wx k j y hj => by
          obtain ⟨hy, sb, so, rfl, hc⟩ := RR.it j y hj
          refine ⟨hy, sb, so, rfl, ?_⟩
          have hlt := World.block_lt_of_cell? w7 _ hc
          have hne : sb ≠ mb := fun e => by
            have h1 := (R7.it.2 sb rfl).1
            rw [e, OM7.it] at h1
            cases h1
          rw [World.cell?_of_block (w := w7) (k.block sb hlt hne)]
          exact hc⟩
        clear RR
        go_upto_region 14 with fail
        go_loopw [11] (fun jv wx => ∃ (j : Nat), jv = .int .i64 j ∧ j ≤ nk ∧ Aside (MapN wx mb j (onceF ks j)) ∧ Aside (Keeps (fun x => x = mb) w7 wx)) (fun jv _ => nk - natI jv)
        case atStart => exact ⟨0, rfl, Nat.zero_le _, M7, ⟨Keeps.refl _ _⟩⟩
        case round =>
          obtain ⟨j, rfl, hj, MJ, KJ⟩ := hrel
          rcases Nat.eq_or_lt_of_le hj with rfl | hjt
          · have s8 := BL.it _ KJ.it
            have X8 := Aside.mk (X7.it.sn s8 (by decide) (by decide))
            have obne : ob ≠ mb := by
              intro e
              obtain ⟨es, cl, h⟩ := M7.it.isMap
              rw [← e, CB7.it.1] at h
              cases h
            have g1 : wr.cell? ⟨ob, 1, none⟩ = some (.int .i64 z.k) := (CB7.it.1.later KJ.it obne).cell 1
            have PK := Aside.mk (peek_i X8.it.a zok.k)
            rw [has_mem, HKS.it] at PK
            have EF : onceF ks j z.k = if z.k ∈ ks then 1 else 0 := by unfold onceF; rw [← HNK.it, List.take_length]
            have MQ : Aside (∀ W', Keeps Nowhere wr W' → (Instr.lookup 42 (.map (some mb)) (.int .i64 z.k) false).run Tryd.prog W' = .ok (.int .i64 (onceF ks j z.k)) W') := ⟨fun W' k => (MJ.it.later (S := Nowhere) k (fun x => x)).look zok.k⟩
            have LQ : Aside (∀ W', Keeps Nowhere wr W' → Calls Tryd.prog 23 #[ptr ca] W' fun e w' => e = .returned (.int .i64 (j : Int)) ∧ w' = W') := ⟨fun W' k => by rw [hkl]; exact len_o (X8.it.quiet k).a⟩
            have g1q : Aside (∀ W', Keeps Nowhere wr W' → W'.cell? ⟨ob, 1, none⟩ = some (.int .i64 z.k)) := ⟨fun W' k => by rw [World.cell?_of_block (w := wr) (k.block ob (World.block_lt_of_cell? wr _ g1) (fun x => x))]; exact g1⟩
            have q0 : ((j : Int) == j) = true := by simp
            rw [EF] at MQ
            clear s8 EF
            by_cases hk : z.k ∈ ks
            · rw [if_pos hk] at MQ
              rw [decide_eq_true hk] at PK
              go_wp2_with (first
                | (go_at_call 27; refine PK.it.mono ?_; clear PK; rintro e w8 ⟨rfl, K8⟩; have y1 := g1q.it _ K8.it; have lk := MQ.it _ K8.it; have LN := Aside.mk (LQ.it _ K8.it))
                | (go_at_call 23; refine LN.it.mono ?_; clear LN; rintro e w9 ⟨rfl, rfl⟩)
                | fail)
              go_roundw
              case rel => exact ⟨m + 1, own7, L5, by go_num, by omega, by omega, ⟨X8.it.quiet K8.it⟩⟩
              case measure => simp [natI]; omega
            · rw [if_neg hk] at MQ
              rw [decide_eq_false hk] at PK
              go_wp2_with (first
                | (go_at_call 27; refine PK.it.mono ?_; clear PK; rintro e w8 ⟨rfl, K8⟩; have y1 := g1q.it _ K8.it; have lk := MQ.it _ K8.it; have LN := Aside.mk (LQ.it _ K8.it))
                | (go_at_call 23; refine LN.it.mono ?_; clear LN; rintro e w9 ⟨rfl, rfl⟩)
                | fail)
              go_roundw
              case rel => exact ⟨m + 1, own7, L5, by go_num, by omega, by omega, ⟨X8.it.quiet K8.it⟩⟩
              case measure => simp [natI]; omega
          · have j1 : (j : Int) < (nk : Int) := by omega
            obtain ⟨y, hy⟩ : ∃ y, ks[j]? = some y := ⟨_, List.getElem?_eq_getElem (by rw [HNK.it]; exact hjt)⟩
            obtain ⟨yb, g, o3, rfl, y0⟩ := RX.it _ KJ.it j y hy
            have lk := MJ.it.look yb
            rw [onceF_new ND.it hy] at lk
            obtain ⟨wn, hst, MN, KN⟩ := MJ.it.store (by have : L5.length ≤ 1001 := (by omega); exact Nat.lt_of_lt_of_le (show j < 2000 by omega) (by decide)) yb 1
            rw [onceF_next hy] at MN
            have lk2 := MN.look yb
            have e2 : onceF ks (j + 1) y = 1 := by rw [← onceF_next hy]; exact if_pos rfl
            rw [e2] at lk2
            have KN7 := Aside.mk (KJ.it.trans KN)
            obtain ⟨_, g', o', hge, y1⟩ := RX.it _ KN7.it j y hy
            cases hge
            have HMN := Aside.mk MN
            clear MN KN hy e2
            go_wp2_with fail
            go_roundw
            case rel => exact ⟨j + 1, by go_num, hjt, HMN, KN7⟩
            case measure => simp [natI]; omega
      · rcases Nat.lt_or_ge m n1 with hm5 | hm5
        · obtain rfl : m = 1000 := by omega
          have j4 : ((1000 : Nat) : Int) < (n1 : Int) := by omega
          go_wp2_with fail
          go_ret
          exact ⟨rfl, X.it.og.g.bel⟩
        · obtain rfl : m = n1 := by omega
          go_wp2_with fail
          go_ret
          exact ⟨rfl, X.it.og.g.bel⟩
end Go.Proofs.YtcmgmhdlokcgbaaDoor
