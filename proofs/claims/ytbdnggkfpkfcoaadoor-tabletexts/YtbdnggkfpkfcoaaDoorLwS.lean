/-
  culvertlaw15.TableSet
-/
import Derived.Test.YtbdnggkfpkfcoaaDoorLwA
import Derived.Test.YtbdnggkfpkfcoaaDoorOpenTb
import Derived.Deep.DeepCutAuto
namespace Go.Proofs.YtbdnggkfpkfcoaaDoor
open Go.RowKit Tbint

variable {A : Nat → Addr} {w w' W : World} {own own' : Nat → Nat} {p : Nat} {room : Int} {L : Tl Int} {I : Nat → Prop}

/-- a table above the ground -/
structure Ts (A : Nat → Addr) (w : World) (own : Nat → Nat) (W : World) (p : Nat) (room : Int) (L : Tl Int) : Prop where
  g : OnG A w own W
  t : TbO own 1 W p room L
theorem Ts.quiet (h : Ts A w own W p room L) (hk : Keeps Nowhere W w') : Ts A w own w' p room L := ⟨h.g.quiet hk, h.t.quiet hk⟩
theorem Ts.step (h : Ts A w own W p room L) (hk : Keeps Nowhere W w') (r : Nat) : Ts A w (give own W.heap.size r) w' p room L := ⟨h.g.sn (I := fun _ => False) (Sn.quiet hk r) (fun x => x), h.t.sn (I := fun _ => False) (Sn.quiet hk r) (fun x => x)⟩
theorem Ts.bel (h : Ts A w own W p room L) : Keeps Nowhere w W := Keeps.ofBelow h.g.g.bel

/-- an op of a script -/
theorem op_cells {zs : List OpV15} {a : Option Addr} {c i : Nat} {z : OpV15} (h : ListAt Op15Ok 3 w (.slice a zs.length c) zs) (hi : zs[i]? = some z) :
    ∃ b o, a = some ⟨b, o, none⟩ ∧ w.cell? ⟨b, o + i * 3, none⟩ = some (.int .i64 z.kind) ∧ w.cell? ⟨b, o + i * 3 + 1, none⟩ = some (.int .u32 (z.id : Nat)) ∧ w.cell? ⟨b, o + i * 3 + 2, none⟩ = some (.int .i64 z.v) ∧ z.id ≤ 4294967295 := by
  obtain ⟨a', c', e, _, _, h⟩ := h
  injection e with e1 _ e2
  subst e1
  obtain ⟨b, o, cs, rfl, ⟨rfl, hid⟩, _, hc⟩ := h i z hi
  exact ⟨b, o, rfl, hc 0 (by decide), hc 1 (by decide), hc 2 (by decide), hid⟩

theorem gotV_some {o : Option Int} {v : Int} (h : o = some v) : gotV o = .int .i64 v := by subst h; rfl

set_option maxRecDepth 20000 in
set_option maxHeartbeats 4000000 in
theorem tableSet_walk {A : Nat → Addr} (a0 : Int) (s : Value) (zs : List OpV15) (w : World) (hs : Sents 148 codeVars A w) (hz : Ops15Arg w s zs) :
    Calls Tryd.prog 5 #[.int .i64 a0, s] w fun e w' => e = .returned (.bool true) ∧ Below w.heap.size w w' := by
  obtain ⟨hz, hz24⟩ := hz
  have HZ := Aside.mk hz
  obtain ⟨a, c, rfl, hzc, hcm, _⟩ := hz
  obtain ⟨N, hN⟩ : ∃ N, zs.length = N := ⟨_, rfl⟩
  have HN := Aside.mk hN
  rw [hN] at hzc hz24 ⊢
  have WK := Aside.mk (wakes15 hs)
  have HS := Aside.mk hs
  have hNm : (N : Int) ≤ 9223372036854775807 := by omega
  clear hs hN
  go_enter Tryd.func5, Tryd.ntmps5
  go_upto_region 3 with (go_at_call 9; refine WK.it.mono ?_; rintro e w1 ⟨rfl, K1⟩)
  clear WK
  by_cases h0 : a0 < 0
  · have NO := Aside.mk (new_no a0 h0 w1 (HS.it.later K1.it.bel))
    go_wp2_with (go_at_call 10; refine NO.it.mono ?_; rintro e w2 ⟨rfl, K2⟩)
    go_ret
    exact ⟨rfl, (K1.it.trans K2.it).bel⟩
  · have h0' : 0 ≤ a0 := by omega
    have hd0 : decide (a0 < 0) = false := decide_eq_false h0
    have NW := Aside.mk (new_ok a0 h0' w1 (fun _ => 0) 1)
    go_upto_region 9 with (go_at_call 10; refine NW.it.mono ?_; rintro e w2 ⟨p, own2, rfl, X2⟩)
    have T2 : Aside (Ts A w1 own2 w2 p a0 []) := ⟨⟨(OnG.start (HS.it.later K1.it.bel)).sn X2.it.2.2 (fun x => x), X2.it.1⟩⟩
    clear X2 NW
    go_wp2_with fail
    go_loopw [7] (fun v wr => ∃ (j : Nat) (L : Tl Int) (own : Nat → Nat), v = .int .i64 j ∧ j ≤ N ∧ Aside (Ts A w1 own wr p a0 L) ∧ Aside ((L.length : Int) ≤ a0)) (fun v _ => N - natOf v)
    case atStart => exact ⟨0, [], own2, rfl, Nat.zero_le _, T2, ⟨by simpa using h0'⟩⟩
    case round =>
      obtain ⟨j, L, own, rfl, hj, T, hL⟩ := hrel
      rcases Nat.eq_or_lt_of_le hj with rfl | hlt
      · go_wp2_with fail
        go_ret
        exact ⟨rfl, (K1.it.trans T.it.bel).bel⟩
      · obtain ⟨z, hz⟩ : ∃ z, zs[j]? = some z := ⟨_, List.getElem?_eq_getElem (by rw [HN.it]; exact hlt)⟩
        have hzw := (HZ.it.at (K1.it.trans T.it.bel).bel)
        rw [HN.it] at hzw
        obtain ⟨b, o, rfl, y0, y1, y2, hid⟩ := op_cells (by rw [HN.it]; exact hzw) hz
        clear hz hzw
        obtain ⟨kd, id, v⟩ := z
        simp only at y0 y1 y2 hid
        have LN := up_len T.it.t.up
        go_upto_region 12 with fail
        obtain ⟨ob, hob⟩ : ∃ ob, wr.heap.size = ob := ⟨_, rfl⟩
        have T3 := Aside.mk (T.it.step ((Keeps.refl _ _).alloc (.cells #[.int .i64 kd, .int .u32 (id : Nat), .int .i64 v] 39)) 5)
        have CB : Aside (CellsO (give own wr.heap.size 5) 5 (wr.alloc (.cells #[.int .i64 kd, .int .u32 (id : Nat), .int .i64 v] 39)) wr.heap.size 39 [.int .i64 kd, .int .u32 (id : Nat), .int .i64 v]) := ⟨Cells.new wr _ _, give_new (Nat.le_refl _)⟩
        generalize (give own wr.heap.size 5) = own3 at T3 CB
        rw [hob] at CB ⊢
        clear hob
        generalize (wr.alloc (.cells #[.int .i64 kd, .int .u32 (id : Nat), .int .i64 v] 39)) = W3 at CB T3 ⊢
        have b0 : W3.cell? ⟨ob, 0, none⟩ = some (.int .i64 kd) := by rw [CB.it.1.cell]; rfl
        have b1 : W3.cell? ⟨ob, 1, none⟩ = some (.int .u32 (id : Nat)) := by rw [CB.it.1.cell]; rfl
        have b2 : W3.cell? ⟨ob, 2, none⟩ = some (.int .i64 v) := by rw [CB.it.1.cell]; rfl
        have LE := Aside.mk (len_at T3.it.t)
        have GE := Aside.mk (Tbint.get_at T3.it.t hid)
        obtain ⟨n, hn⟩ : ∃ n, L.length = n := ⟨_, rfl⟩
        have HNL := Aside.mk hn
        rw [hn] at LE LN hL
        have hLn : (n : Int) ≤ a0 := hL.it
        obtain ⟨tv, htv⟩ : ∃ tv, gotV (tlook L id) = tv := ⟨_, rfl⟩
        obtain ⟨th, hth⟩ : ∃ th, (tlook L id).isSome = th := ⟨_, rfl⟩
        rw [htv, hth] at GE
        have HTH := Aside.mk hth
        clear hn hL htv hth y0 y1 y2 T
        go_upto_if 65 with (first
          | (go_at_call 15; refine LE.it.mono ?_; rintro e w4 ⟨rfl, hw4⟩; subst hw4)
          | (go_at_call 32; refine GE.it.mono ?_; rintro e w5 ⟨rfl, hw5⟩; subst hw5)
          | fail)
        go_cut [12, 13, 14, 15, 16, 17, 18] from 44 to 208 (fun _ _ _ _ _ _ _ wx => ∃ (L' : Tl Int) (own' : Nat → Nat), Aside (Ts A w1 own' wx p a0 L') ∧ Aside ((L'.length : Int) ≤ a0))
        case first =>
          by_cases hk3 : kd = 3
          · subst hk3
            have DR := Aside.mk (drop_at T3.it.t hid)
            have T3g := Aside.mk T3.it.g
            have FIN : Aside (∀ W', TbO own3 1 W' p a0 (tdel L id) → Sn (fun k => k = 1) own3 w5 own3 W' → ∃ (L' : Tl Int) (own' : Nat → Nat), Aside (Ts A w1 own' W' p a0 L') ∧ Aside ((L'.length : Int) ≤ a0)) := ⟨fun W' h1 h2 => ⟨tdel L id, own3, ⟨T3.it.g.sn h2 (by decide), h1⟩, ⟨by
              have : (tdel L id).length ≤ L.length := List.length_filter_le _ _
              have := HNL.it
              omega⟩⟩⟩
            have hN2 : tlook (tdel L id) id = none := by rw [tlook_tdel, if_pos rfl]
            obtain ⟨n2, hn2⟩ : ∃ n2, (tdel L id).length = n2 := ⟨_, rfl⟩
            have hnn : (th = true → n2 + 1 = n) ∧ (th = false → n2 = n) := by
              refine ⟨fun e => ?_, fun e => ?_⟩
              · have h := HTH.it
                rw [e] at h
                obtain ⟨v0, hv0⟩ := Option.isSome_iff_exists.1 h
                have := len_tdel T3.it.t.up hv0
                rw [hn2, HNL.it] at this
                exact this
              · have h := HTH.it
                rw [e] at h
                have hno : tlook L id = none := by simpa using h
                rw [← hn2, tdel_absent hno]
                exact HNL.it
            obtain ⟨hn1, hn0⟩ := hnn
            rw [HTH.it] at DR
            generalize gotV (tlook L id) = tv2 at DR
            have CC := Aside.mk CB.it
            clear T3 LE GE b0
            cases th
            all_goals
              go_upto_region 16 with (go_at_call 33; refine DR.it.mono ?_; rintro e w6 ⟨rfl, X6⟩)
              have b1' : w6.cell? ⟨ob, 1, none⟩ = some (.int .u32 (id : Nat)) := by rw [(CC.it.sn X6.it.2 (by decide)).1.cell]; rfl
              have G2 := Aside.mk (Tbint.get_at X6.it.1 hid)
              rw [hN2] at G2
              have L2 := Aside.mk (len_at X6.it.1)
              rw [hn2] at L2
            · have e2 := hn0 (by trivial)
              subst e2
              have eb : ((n2 : Int) != n2) = false := by simp
              clear hn1 hn0 hn2
              go_wp2_with (first
                | (go_at_call 15; refine L2.it.mono ?_; rintro e w7 ⟨rfl, hw7⟩; subst hw7)
                | (go_at_call 32; refine G2.it.mono ?_; rintro e w8 ⟨rfl, hw8⟩; subst hw8)
                | fail)
              go_meet
              case rel => exact FIN.it _ X6.it.1 X6.it.2
            · have e2 := hn1 (by trivial)
              have e3 : (n : Int) - 1 = n2 := by omega
              have eb : ((n2 : Int) != n2) = false := by simp
              clear hn1 hn0 hn2
              go_wp2_with (first
                | (go_at_call 15; refine L2.it.mono ?_; rintro e w7 ⟨rfl, hw7⟩; subst hw7)
                | (go_at_call 32; refine G2.it.mono ?_; rintro e w8 ⟨rfl, hw8⟩; subst hw8)
                | fail)
              go_meet
              case rel => exact FIN.it _ X6.it.1 X6.it.2
          · have hk3' : (kd == 3) = false := by simpa using hk3
            have PT := Aside.mk (put_at T3.it.t hid v T3.it.g.sents)
            have CC := Aside.mk CB.it
            have FIN : Aside (∀ W', TbO own3 1 W' p a0 (putL a0 L id v) → Sn (fun k => k = 1) own3 w5 own3 W' → ∃ (L' : Tl Int) (own' : Nat → Nat), Aside (Ts A w1 own' W' p a0 L') ∧ Aside ((L'.length : Int) ≤ a0)) := ⟨fun W' h1 h2 => ⟨putL a0 L id v, own3, ⟨T3.it.g.sn h2 (by decide), h1⟩, ⟨by
              have := HNL.it
              unfold putL
              split
              · omega
              · split
                · omega
                · rw [len_tput]; omega⟩⟩⟩
            have T3g := Aside.mk T3.it.g
            clear LE GE b0
            have hcase : (∃ v0, th = true ∧ putC a0 L id = 8 ∧ putL a0 L id v = L ∧ tlook L id = some v0) ∨ (th = false ∧ a0 = n ∧ putC a0 L id = 6 ∧ putL a0 L id v = L ∧ tlook L id = none) ∨ (th = false ∧ (n : Int) < a0 ∧ putC a0 L id = 0 ∧ putL a0 L id v = tput L id v ∧ tlook (tput L id v) id = some v) := by
              have h := HTH.it
              have h' := HNL.it
              unfold putC putL
              cases th with
              | true =>
                obtain ⟨v0, hv0⟩ := Option.isSome_iff_exists.1 h
                refine .inl ⟨v0, rfl, ?_, ?_, hv0⟩ <;> simp [h]
              | false =>
                have hno : tlook L id = none := by simpa using h
                by_cases hr : a0 ≤ L.length
                · refine .inr (.inl ⟨rfl, by omega, ?_, ?_, hno⟩) <;> simp [h, hr]
                · refine .inr (.inr ⟨rfl, by omega, ?_, ?_, by rw [tlook_tput v hno, if_pos rfl]⟩) <;> simp [h, hr]
            rcases hcase with ⟨v0, rfl, hc, hl2, hgt⟩ | ⟨rfl, hra, hc, hl2, hgt⟩ | ⟨rfl, hra, hc, hl2, hgt⟩
            all_goals rw [hc] at PT
            · have hlen := HNL.it
              go_upto_region 20 with (first
                | (go_at_call 34; refine PT.it.mono ?_; rintro e w6 ⟨ev, rfl, C6, X6⟩
                   have CD := Aside.mk (code_of (T3g.it.sn X6.it.2 (by decide)).sents (show Coded A ev 8 from C6.out)))
                | (go_at_call 12; refine CD.it.mono ?_; rintro e w7 ⟨rfl, hw7⟩; subst hw7)
                | fail)
              have cc := CC.it.sn X6.it.2 (by decide)
              have b1' : w7.cell? ⟨ob, 1, none⟩ = some (.int .u32 (id : Nat)) := by rw [cc.1.cell]; rfl
              have b2' : w7.cell? ⟨ob, 2, none⟩ = some (.int .i64 v) := by rw [cc.1.cell]; rfl
              have G2 := Aside.mk (Tbint.get_at X6.it.1 hid)
              rw [hl2, hgt] at G2
              have L2 := Aside.mk (len_at X6.it.1)
              rw [hl2, hlen] at L2
              clear cc
              go_wp2_with (first
                | (go_at_call 15; refine L2.it.mono ?_; rintro e w8 ⟨rfl, hw8⟩; subst hw8)
                | (go_at_call 32; refine G2.it.mono ?_; rintro e w9 ⟨rfl, hw9⟩; subst hw9)
                | fail)
              go_meet
              case rel => exact FIN.it _ X6.it.1 X6.it.2
            · have hlen := HNL.it
              have hge : decide (a0 ≤ (n : Int)) = true := decide_eq_true (by omega)
              have hlt2 : decide ((n : Int) < a0) = false := decide_eq_false (by omega)
              clear hra
              go_upto_region 20 with (first
                | (go_at_call 34; refine PT.it.mono ?_; rintro e w6 ⟨ev, rfl, C6, X6⟩
                   have CD := Aside.mk (code_of (T3g.it.sn X6.it.2 (by decide)).sents (show Coded A ev 6 from C6.out)))
                | (go_at_call 12; refine CD.it.mono ?_; rintro e w7 ⟨rfl, hw7⟩; subst hw7)
                | fail)
              have cc := CC.it.sn X6.it.2 (by decide)
              have b1' : w7.cell? ⟨ob, 1, none⟩ = some (.int .u32 (id : Nat)) := by rw [cc.1.cell]; rfl
              have b2' : w7.cell? ⟨ob, 2, none⟩ = some (.int .i64 v) := by rw [cc.1.cell]; rfl
              have G2 := Aside.mk (Tbint.get_at X6.it.1 hid)
              rw [hl2, hgt] at G2
              have L2 := Aside.mk (len_at X6.it.1)
              rw [hl2, hlen] at L2
              clear cc
              go_wp2_with (first
                | (go_at_call 15; refine L2.it.mono ?_; rintro e w8 ⟨rfl, hw8⟩; subst hw8)
                | (go_at_call 32; refine G2.it.mono ?_; rintro e w9 ⟨rfl, hw9⟩; subst hw9)
                | fail)
              go_meet
              case rel => exact FIN.it _ X6.it.1 X6.it.2
            · have hlen : (tput L id v).length = n + 1 := by rw [len_tput, HNL.it]
              have hge : decide (a0 ≤ (n : Int)) = false := decide_eq_false (by omega)
              have hlt2 : decide ((n : Int) < a0) = true := decide_eq_true (by omega)
              have en1 : (((n + 1 : Nat) : Int) != (n : Int) + 1) = false := by simp
              go_upto_region 20 with (first
                | (go_at_call 34; refine PT.it.mono ?_; rintro e w6 ⟨ev, rfl, C6, X6⟩
                   have CD := Aside.mk (code_of (T3g.it.sn X6.it.2 (by decide)).sents (show Coded A ev 0 from C6.out)))
                | (go_at_call 12; refine CD.it.mono ?_; rintro e w7 ⟨rfl, hw7⟩; subst hw7)
                | fail)
              have cc := CC.it.sn X6.it.2 (by decide)
              have b1' : w7.cell? ⟨ob, 1, none⟩ = some (.int .u32 (id : Nat)) := by rw [cc.1.cell]; rfl
              have b2' : w7.cell? ⟨ob, 2, none⟩ = some (.int .i64 v) := by rw [cc.1.cell]; rfl
              have G2 := Aside.mk (Tbint.get_at X6.it.1 hid)
              rw [hl2, hgt, gotV_some (v := v) rfl] at G2
              have evv : (v != v) = false := by simp
              have L2 := Aside.mk (len_at X6.it.1)
              rw [hl2, hlen] at L2
              clear cc
              go_wp2_with (first
                | (go_at_call 15; refine L2.it.mono ?_; rintro e w8 ⟨rfl, hw8⟩; subst hw8)
                | (go_at_call 32; refine G2.it.mono ?_; rintro e w9 ⟨rfl, hw9⟩; subst hw9)
                | fail)
              go_meet
              case rel => exact FIN.it _ X6.it.1 X6.it.2
        case rest =>
        obtain ⟨L', own', T4, hL'⟩ := hcut
        clear HTH T3 CB b1 b2 HNL LN hLn
        have ID := Aside.mk (ids_at T4.it.t)
        have LN := up_len T4.it.t.up
        have HU := Aside.mk T4.it.t.up
        obtain ⟨n', hn'⟩ : ∃ n', L'.length = n' := ⟨_, rfl⟩
        have HNL := Aside.mk hn'
        rw [hn'] at ID LN hL'
        have hLa : (n' : Int) ≤ a0 := hL'.it
        have hLa' : ¬ a0 < (n' : Int) := by omega
        clear hn' hL'
        go_upto_region 24 with (go_at_call 35; refine ID.it.mono ?_; rintro e w6 ⟨g, cap, rfl, hg, R6, K6⟩)
        have T6 := Aside.mk (T4.it.step K6.it 6)
        have L6 := Aside.mk (len_at T6.it.t)
        rw [HNL.it] at L6
        have hcap : n' ≤ cap := by
          rcases R6.it.2 with ⟨h, _⟩ | ⟨g', cap', cur, h, _, _, h1, _⟩
          · cases h
          · cases h; exact h1
        clear ID T4
        generalize give own' wc.heap.size 6 = own6 at T6
        have enn : ((n' : Int) != n') = false := by simp
        go_upto_region 27 with (first
          | (go_at_call 15; refine L6.it.mono ?_; rintro e w7 ⟨rfl, hw7⟩; subst hw7)
          | fail)
        go_wp2_with fail
        go_loopw [20, 21, 22] (fun v _ _ wr2 => ∃ m : Nat, v = .int .i64 m ∧ m ≤ n' ∧ Aside (Keeps Nowhere w7 wr2)) (fun v _ _ _ => n' - natOf v)
        case atStart => exact ⟨0, rfl, Nat.zero_le _, ⟨Keeps.refl _ _⟩⟩
        case round =>
          obtain ⟨m, rfl, hm, K7⟩ := hrel
          rcases Nat.eq_or_lt_of_le hm with rfl | hmt
          · go_wp2_with fail
            go_roundw
            case rel => exact ⟨j + 1, L', own6, by go_num, by omega, ⟨T6.it.quiet K7.it⟩, ⟨by rw [HNL.it]; exact hLa⟩⟩
            case measure => simp [natOf]; omega
          · have hml : m < L'.length := by rw [HNL.it]; exact hmt
            obtain ⟨x, hx⟩ : ∃ x, L'[m]? = some x := ⟨_, List.getElem?_eq_getElem hml⟩
            have hkx : ∀ (q : Nat) (y : Nat × Int), L'[q]? = some y → wr.cell? ⟨g, q, none⟩ = some (.int .u32 (y.1 : Nat)) := fun q y hy => by
              have r := owns_later R6.it K7.it (fun _ _ x => x)
              have := r.cells rfl q (e32 y.1) (by rw [List.getElem?_map]; unfold ks; rw [List.getElem?_map, hy]; rfl)
              rwa [add_none, Nat.zero_add] at this
            have c0 := hkx m x hx
            have G7 := Aside.mk (Tbint.get_at (T6.it.quiet K7.it).t (HU.it.b x (List.mem_of_getElem? hx)))
            rw [tl_get HU.it hx] at G7
            obtain ⟨gv, hgv⟩ : ∃ gv, gotV (some x.2) = gv := ⟨_, rfl⟩
            rw [hgv] at G7
            have e7 : (some x.2).isSome = true := rfl
            rw [e7] at G7
            clear e7 hgv
            by_cases hm0 : m = 0
            · subst hm0
              clear hkx
              go_upto_region 30 with (go_at_call 32; refine G7.it.mono ?_; rintro e w8 ⟨rfl, hw8⟩; subst hw8)
              go_quiet (fail)
              go_wp2_with fail
              go_roundw
              case rel => exact ⟨1, by go_num, by omega, ⟨K7.it.drewN _⟩⟩
              case measure => simp [natOf]; omega
            · obtain ⟨m1, rfl⟩ : ∃ m1, m = m1 + 1 := ⟨m - 1, by omega⟩
              obtain ⟨y, hy⟩ : ∃ y, L'[m1]? = some y := ⟨_, List.getElem?_eq_getElem (by omega)⟩
              have c1 := hkx m1 y hy
              have em1 : ((m1 + 1 : Nat) : Int) - 1 = m1 := by omega
              have hgt0 : decide ((0 : Int) < ((m1 + 1 : Nat) : Int)) = true := decide_eq_true (by omega)
              have hxy : y.1 < x.1 := by
                have hp := List.pairwise_iff_getElem.1 HU.it.p m1 (m1 + 1) (by rw [len_ks]; omega) (by rw [len_ks]; omega) (by omega)
                have h1 : (ks L')[m1]? = some y.1 := by unfold ks; rw [List.getElem?_map, hy]; rfl
                have h2 : (ks L')[m1 + 1]? = some x.1 := by unfold ks; rw [List.getElem?_map, hx]; rfl
                rw [List.getElem?_eq_getElem (by rw [len_ks]; omega)] at h1 h2
                simp only [Option.some.injEq] at h1 h2
                omega
              have hle0 : decide (x.1 ≤ y.1) = false := decide_eq_false (by omega)
              generalize x.1 = xi at c0 G7 hxy hle0
              generalize y.1 = yi at c1 hxy hle0
              clear hkx hx hy hxy hm0
              go_upto_region 30 with (go_at_call 32; refine G7.it.mono ?_; rintro e w8 ⟨rfl, hw8⟩; subst hw8)
              go_quiet (fail)
              go_wp2_with fail
              go_roundw
              case rel => exact ⟨m1 + 1 + 1, by go_num, by omega, ⟨K7.it.drewN _⟩⟩
              case measure => simp [natOf]; omega
end Go.Proofs.YtbdnggkfpkfcoaaDoor
