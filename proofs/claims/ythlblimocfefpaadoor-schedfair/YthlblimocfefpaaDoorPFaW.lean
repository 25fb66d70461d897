/-
  SchedFair
-/
import Derived.Test.YthlblimocfefpaaDoorPFaP
import Derived.Test.YthlblimocfefpaaDoorOpx
import Derived.Deep.DeepCutAuto
import Derived.Deep.CutBlock
namespace Go.Proofs.YthlblimocfefpaaDoor
open Go.RowKit

set_option maxRecDepth 8000 in
set_option maxHeartbeats 8000000 in
theorem schedFair_walk {A : Nat → Addr} (vi : Value) (is : List Nat) (vt : Value) (zs : List Tk) (w : World) (h : St11 A w) (hi : U32sArg w vi is) (hz : Tks11Arg w vt zs) :
    Calls Tryd.prog 4 #[vi, vt] w fun e w' => e = .returned (.bool true) ∧ Below w.heap.size w w' := by
  obtain ⟨hi, hib⟩ := hi
  obtain ⟨ia, icap, rfl, hilc, hicm, hiat⟩ := hi
  obtain ⟨hz, hzb⟩ := hz
  obtain ⟨sa, cap, rfl, hlc, hcm, hat⟩ := hz
  have IAT := Aside.mk hiat
  have HAT := Aside.mk hat
  obtain ⟨M, hM⟩ : ∃ M, M = is.length := ⟨_, rfl⟩
  obtain ⟨Z, hZ⟩ : ∃ Z, Z = zs.length := ⟨_, rfl⟩
  rw [← hM] at hilc hib ⊢
  rw [← hZ] at hlc hzb ⊢
  have HM := Aside.mk hM
  have HZ := Aside.mk hZ
  have hMb : (M : Int) ≤ 9223372036854775807 := by omega
  have hMc : (M : Int) ≤ icap := by omega
  have hZb : (Z : Int) ≤ 8796093021952 := by omega
  have hZc : (Z : Int) ≤ cap := by omega
  have FX := Aside.mk (awake13 h)
  clear h hM hZ hcm hat hicm hiat hzb hib
  go_enter Tryd.func4, Tryd.ntmps4
  go_upto_block 0 with (first
    | (go_at_call 6; refine FX.it.mono ?_; rintro e w1 ⟨rfl, k1⟩; obtain ⟨own1, g1⟩ := k1.it; have NW := Aside.mk (new_sc g1))
    | (go_at_call 7; refine NW.it.mono ?_; rintro e w2 ⟨s, own2, rfl, L2⟩)
    | fail)
  clear FX NW k1 g1
  go_cut [6] from 20 to 35 (fun iv wx => ∃ (q : Nat) (ks : List Nat) (own : Nat → Nat), iv = .int .i64 q ∧ Aside (Sc A w own wx s [] 0 ks) ∧ Aside (ks.length ≤ 200 ∧ (ks = [] → M = 0)))
  case first =>
    go_wp2_with fail
    go_loopw [6] (fun iv wr => ∃ (q : Nat) (ks : List Nat) (own : Nat → Nat), iv = .int .i64 q ∧ q ≤ M ∧ q ≤ 200 ∧ Aside (Sc A w own wr s [] 0 ks) ∧ Aside (ks.length ≤ q ∧ (ks = [] → q = 0))) (fun iv _ => M - (intOf iv).toNat)
    case atStart => exact ⟨0, [], own2, rfl, Nat.zero_le _, Nat.zero_le _, L2, ⟨Nat.le_refl _, fun _ => rfl⟩⟩
    case round =>
      obtain ⟨q, ks, own, rfl, hq, hq2, L3, K3⟩ := hrel
      clear L2
      by_cases h1 : q < M
      · have h1' : (q : Int) < M := by omega
        by_cases h2 : q < 200
        · have h2' : (q : Int) < 200 := by omega
          obtain ⟨k, hk⟩ : ∃ k, is[q]? = some k := ⟨_, List.getElem?_eq_getElem (by rw [← HM.it]; exact h1)⟩
          obtain ⟨b, o, cs, rfl, hok, hcl, hc⟩ := IAT.it q k hk
          obtain ⟨rfl, hkb⟩ := hok
          obtain ⟨p, r, h3⟩ := L3.it
          have r0 : wr.cell? ⟨b, o + q, none⟩ = some (.int .u32 k) := by
            have := hc 0 (by decide)
            rw [Nat.mul_one, Nat.add_zero] at this
            rw [h3.ln.g.g.bel.cell (World.block_lt_of_cell? w _ this)]
            exact this
          have RD := Aside.mk (ready_sc L3.it k hkb (by have := K3.it.1; unfold maxLen; omega))
          have KY : Aside ((addL ks k).length ≤ q + 1 ∧ (addL ks k = [] → q + 1 = 0)) := ⟨by
            have := K3.it.1
            unfold addL
            split
            · rename_i hm
              exact ⟨by omega, fun e => by rw [e] at hm; cases hm⟩
            · exact ⟨by simp; omega, fun e => by simp at e⟩⟩
          clear hc hcl hkb h3 hk
          go_wp2_with (first
            | (go_at_call 9; refine RD.it.mono ?_; rintro e w4 ⟨own4, rfl, L4, q4⟩)
            | fail)
          go_roundw
          case rel => exact ⟨q + 1, addL ks k, own4, by go_num, by omega, by omega, L4, KY⟩
          case measure => simp [intOf]; omega
        · have h2' : ¬ (q : Int) < 200 := by omega
          go_wp2_with fail
          go_meet
          case rel => exact ⟨q, ks, own, rfl, L3, ⟨by have := K3.it.1; omega, fun e => by have := K3.it.2 e; omega⟩⟩
      · have h1' : ¬ (q : Int) < M := by omega
        go_wp2_with fail
        go_meet
        case rel => exact ⟨q, ks, own, rfl, L3, ⟨by have := K3.it.1; omega, fun e => by have := K3.it.2 e; omega⟩⟩
  case rest =>
    obtain ⟨q0, T, own3, rfl, L3, K3⟩ := hcut
    clear L2
    have TU := Aside.mk (turns_sl L3.it (by have := K3.it.1; omega))
    obtain ⟨n, hn⟩ : ∃ n, n = T.length := ⟨_, rfl⟩
    rw [← hn] at TU
    have HN := Aside.mk hn
    have hn2 : (n : Int) ≤ 200 := by have := K3.it.1; omega
    clear hn
    go_upto_region 10 with (first
      | (go_at_call 11; refine TU.it.mono ?_; rintro e w4 ⟨ta, tc, rfl, o4, k4⟩)
      | fail)
    have F4 : Aside (Fa A w s 0 T (.slice ta n tc) T (give own3 wc.heap.size 10) w4) := ⟨⟨L3.it.sn (Sn.quiet (I := fun _ => False) k4.it 10) (fun x => x) (fun _ _ x => x), OwR.new (by rw [← HN.it]; exact o4.it)⟩⟩
    clear TU L3 o4 k4
    by_cases hn0 : n = 0
    · have hm0 : M = 0 := K3.it.2 (List.eq_nil_of_length_eq_zero (by rw [← HN.it]; exact hn0))
      subst hn0 hm0
      go_wp2_with fail
      go_ret
      obtain ⟨p, r, h5⟩ := F4.it.sc
      exact ⟨rfl, h5.ln.g.g.bel⟩
    · have hn0' : ¬ (n : Int) = 0 := by omega
      have HT : Aside (T ≠ []) := ⟨fun e => hn0 (by rw [HN.it, e]; rfl)⟩
      have en : ((n : Int) == 0) = false := by simp [hn0]
      go_wp2_with fail
      go_loopw [9, 10] (fun kv iv wr => ∃ (q i m : Nat) (own : Nat → Nat), kv = .int .i64 q ∧ iv = .int .i64 i ∧ q ≤ Z ∧ i ≤ 3 * n ∧ Aside (m ≤ q) ∧ Aside (Fa A w s m (rotN T i) (.slice ta n tc) T own wr)) (fun _ iv _ => 3 * n - (intOf iv).toNat)
      case atStart => exact ⟨0, 0, 0, _, rfl, rfl, Nat.zero_le _, Nat.zero_le _, ⟨Nat.le_refl _⟩, ⟨by rw [rotN_zero]; exact F4.it⟩⟩
      case round =>
        obtain ⟨q, i, m, own5, rfl, rfl, hqZ, hi3, HMq, F5⟩ := hrel
        clear F4
        by_cases hin : i < 3 * n
        · have hin' : (i : Int) < 3 * n := by omega
          go_upto_if 54 with fail
          go_cut [9] (fun kv wx => ∃ (q' m' : Nat) (own : Nat → Nat), kv = .int .i64 q' ∧ q' ≤ Z ∧ Aside (m' ≤ q') ∧ Aside (Fa A w s m' (rotN T i) (.slice ta n tc) T own wx))
          case first =>
            by_cases hq : q < Z
            · have hq' : (q : Int) < Z := by omega
              obtain ⟨t, hk⟩ : ∃ t, zs[q]? = some t := ⟨_, List.getElem?_eq_getElem (by rw [← HZ.it]; exact hq)⟩
              obtain ⟨b, o, cs, rfl, hok, hcl, hc⟩ := HAT.it q t hk
              obtain ⟨rfl, htw⟩ := hok
              obtain ⟨p, r, h3⟩ := F5.it.sc
              have bel := h3.ln.g.g.bel
              have r0 : wr.cell? ⟨b, o + q * 3, none⟩ = some (.int .i64 t.k) := by
                have := hc 0 (by decide)
                rw [Nat.add_zero] at this
                rw [bel.cell (World.block_lt_of_cell? w _ this)]; exact this
              have r1 : wr.cell? ⟨b, o + q * 3 + 1, none⟩ = some (.int .u32 t.s) := by
                have := hc 1 (by decide)
                rw [bel.cell (World.block_lt_of_cell? w _ this)]; exact this
              have r2 : wr.cell? ⟨b, o + q * 3 + 2, none⟩ = some (.int .u32 t.v) := by
                have := hc 2 (by decide)
                rw [bel.cell (World.block_lt_of_cell? w _ this)]; exact this
              have HW := Aside.mk htw
              clear hc hcl h3 bel hk htw
              go_upto_region 19 with fail
              obtain ⟨b11, hb11⟩ : ∃ b, b = wr.heap.size := ⟨_, rfl⟩
              obtain ⟨w6, hw6⟩ : ∃ w6, w6 = wr.alloc (.cells #[.int .i64 t.k, .int .u32 t.s, .int .u32 t.v] 29) := ⟨_, rfl⟩
              have k6 : Keeps Nowhere wr w6 := by rw [hw6]; exact (Keeps.refl _ _).alloc _
              have c6 : Cells w6 b11 29 (tcells t) := by rw [hw6, hb11]; exact Cells.new wr _ _
              have u0 : w6.cell? ⟨b11, 0, none⟩ = some (.int .i64 t.k) := c6.cell 0
              have u1 : w6.cell? ⟨b11, 1, none⟩ = some (.int .u32 t.s) := c6.cell 1
              have u2 : w6.cell? ⟨b11, 2, none⟩ = some (.int .u32 t.v) := c6.cell 2
              have F6 : Aside (Fa A w s m (rotN T i) (.slice ta n tc) T own5 w6) := ⟨F5.it.idle (Sn.same k6)⟩
              have TK := Aside.mk (ticket_sc F6.it.sc t HW.it (by have := HMq.it; omega))
              rw [← hb11, ← hw6]
              clear hb11 hw6 k6 c6 r0 r1 r2
              by_cases hmay : mayT t = 0
              · rw [putL_new t hmay] at TK
                have hsh := may_shF t hmay
                go_upto_region 20 with (first
                  | (go_at_call 8; refine TK.it.mono ?_; rintro e w7 ⟨x7, own7, rfl, hx7, L7, q7⟩; have e7 := Coded.zero hx7; subst e7)
                  | fail)
                have NX := Aside.mk (next_tk t L7.it (by have := HMq.it; omega) .nilFunc)
                clear u0 u1 u2 TK
                go_upto_region 21 with (first
                  | (go_at_call 12; refine NX.it.mono ?_; rintro e w8 ⟨own8, rfl, L8, q8⟩)
                  | fail)
                have k9 : Keeps Nowhere w8 (w8.alloc (.cells #[.int .u8 0, .int .u8 (shF t.k.toNat), .int .u16 (shG t.k.toNat), .int .u32 t.s, .int .u32 t.v, .slice none 0 0] 46)) := (Keeps.refl _ _).alloc _
                have F9 : Aside (Fa A w s (m + 1) (rotN T i) (.slice ta n tc) T own8 (w8.alloc (.cells #[.int .u8 0, .int .u8 (shF t.k.toNat), .int .u16 (shG t.k.toNat), .int .u32 t.s, .int .u32 t.v, .slice none 0 0] 46))) := ⟨(F6.it.step (q7.it.trans q8.it) (fun x => by have := x.2; omega) L8.it).idle (Sn.same k9)⟩
                clear k9 NX L7 L8 q7 q8 F5 F6
                generalize shF t.k.toNat = sh at hsh F9 ⊢
                go_wp2_with fail
                all_goals (try (exfalso; omega))
                go_meet
                case rel => exact ⟨q + 1, m + 1, own8, by go_num, by omega, ⟨by have := HMq.it; omega⟩, F9⟩
              · rw [putL_no [] t hmay] at TK
                go_wp2_with (first
                  | (go_at_call 8; refine TK.it.mono ?_; rintro e w7 ⟨x7, own7, rfl, hx7, L7, q7⟩; obtain ⟨a7, e7⟩ := Coded.pos hx7 (by simp; omega); subst e7)
                  | fail)
                go_meet
                case rel => exact ⟨q + 1, m + 1, own7, by go_num, by omega, ⟨by have := HMq.it; omega⟩, ⟨F6.it.step q7.it (fun x => by have := x.2; omega) L7.it⟩⟩
            · have hq' : ¬ (q : Int) < Z := by omega
              go_wp2_with fail
              go_meet
              case rel => exact ⟨q, m, own5, rfl, hqZ, HMq, F5⟩
          case rest =>
            obtain ⟨q', m', own6, rfl, hq', HMq', F6⟩ := hcut
            clear F5 HMq hqZ
            obtain ⟨k, t, hk, hrot, hnext⟩ := rotN_step i HT.it
            rw [hrot] at F6
            rw [← HN.it] at hk
            have HK := Aside.mk (And.intro hk (And.intro hrot hnext))
            clear hk hrot hnext
            go_upto_region 24 with fail
            obtain ⟨ab, hab⟩ : ∃ b, b = wc.heap.size := ⟨_, rfl⟩
            obtain ⟨w7, hw7⟩ : ∃ w7, w7 = wc.alloc (.cells #[.slice none 0 0] 39) := ⟨_, rfl⟩
            obtain ⟨own7, ho7⟩ : ∃ own7, own7 = give own6 wc.heap.size 7 := ⟨_, rfl⟩
            have q7 : Sn (fun _ => False) own6 wc own7 w7 := by rw [ho7, hw7]; exact Sn.quiet ((Keeps.refl _ _).alloc _) 7
            have c7 : CellsO own7 7 w7 ab 39 [.slice none 0 0] := by rw [ho7, hw7, hab]; exact ⟨Cells.new wc _ _, give_new (Nat.le_refl _)⟩
            have F7 : Aside (Fa A w s m' (k :: t) (.slice ta n tc) T own7 w7) := ⟨F6.it.idle q7⟩
            have g7 : Ground w.heap.size w own7 w7 := by obtain ⟨p, r, h⟩ := F7.it.sc; exact h.ln.g.g
            have DA : Aside (Calls Tryd.prog 13 #[.agg #[.int .i64 0, .int .i64 0, .int .u32 0, .int .u32 0, .int .u32 0, .slice none 0 0, .slice none 0 0], ptr ab] w7 fun e w' => ∃ cb ob own', e = .returned (.func (.func 36) #[] #[ptr cb, ptr ob]) ∧ Aside (Dt w own' w' cb ob ab [] (.slice none 0 0) (.slice none 0 0) [] []) ∧ Aside (Sn (fun _ => False) own7 w7 own' w')) :=
              ⟨data_at (l := []) 0 ⟨0, 0, 0⟩ 0 g7 rdBo_nil rdBo_nil c7 OwR.zero⟩
            rw [← hab, ← hw7]
            clear hab hw7 ho7 q7 c7 g7 F6
            have hlen : Aside ((k :: t).length * 4 ≤ 140737488355328) := ⟨by rw [← HK.it.2.1, rotN_len, ← HN.it]; omega⟩
            have ND := Aside.mk (fun cb ob own8 w8 (q8 : Sn (fun _ => False) own7 w7 own8 w8) (d8 : Dt w own8 w8 cb ob ab [] (.slice none 0 0) (.slice none 0 0) [] []) => nextD (F7.it.idle q8).sc d8 hlen.it)
            go_upto_region 25 with (first
              | (go_at_call 12; refine (ND.it cb ob own8 w8 q8.it d8.it).mono ?_; rintro e w9 ⟨own9, g, rfl, L9, d9, q9⟩)
              | (go_at_call 13; refine DA.it.mono ?_; rintro e w8 ⟨cb, ob, own8, rfl, d8, q8⟩)
              | fail)
            have F9 : Fa A w s m' (t ++ [k]) (.slice ta n tc) T own9 w9 := (F7.it.idle q8.it).step q9.it (fun x => by have := x.2; omega) L9.it
            clear ND DA F7 hlen
            obtain ⟨b15, hb15⟩ : ∃ b, b = w9.heap.size := ⟨_, rfl⟩
            obtain ⟨wa, hwa⟩ : ∃ wa, wa = w9.alloc (.cells #[.int .u8 0, .int .u8 0, .int .u16 (flg 0), .int .u32 k, .int .u32 2, .slice (some ⟨g, 0, none⟩) 2 2] 46) := ⟨_, rfl⟩
            have ka : Keeps Nowhere w9 wa := by rw [hwa]; exact (Keeps.refl _ _).alloc _
            have y3 : wa.cell? ⟨b15, 3, none⟩ = some (.int .u32 k) := by rw [hwa, hb15]; exact (Cells.new w9 46 [.int .u8 0, .int .u8 0, .int .u16 (flg 0), .int .u32 k, .int .u32 2, .slice (some ⟨g, 0, none⟩) 2 2]).cell 3
            have Fb : Aside (Fa A w s m' (rotN T (i + 1)) (.slice ta n tc) T own9 wa) := ⟨by rw [← HK.it.2.2]; exact F9.idle (Sn.same ka)⟩
            have da := d9.it.quiet ka
            obtain ⟨va, hva, hra⟩ := da.ab
            obtain ⟨aa, ac, rfl, _, _, hca⟩ := owns_rdU hra.1
            obtain ⟨ag, ao, rfl, y1⟩ := hca 0 k rfl
            have y0 : wa.cell? ⟨ab, 0, none⟩ = some (.slice (some ⟨ag, ao, none⟩) 1 ac) := hva.1.cell 0
            rw [Nat.add_zero] at y1
            obtain ⟨tb, tc', et, _, _, hct⟩ := owns_rdU Fb.it.tu.1
            injection et with et1 et2 et3
            subst et1 et3
            obtain ⟨tg, to', rfl, y2⟩ := hct (i % n) k (by rw [HK.it.1])
            have z1 : (0 : Int) ≤ (i : Int) % (n : Int) := Int.emod_nonneg _ (by omega)
            have z2 : (i : Int) % (n : Int) < (n : Int) := Int.emod_lt_of_pos _ (by omega)
            rw [← hb15, ← hwa]
            clear hb15 hwa ka F9 da hva hra hca hct et2 L9 d9 q9 d8 q8
            go_quiet (fail)
            go_wp2_with fail
            go_roundw
            case rel => exact ⟨q', i + 1, m', own9, rfl, by go_num, hq', by omega, HMq', ⟨Fb.it.idle (Sn.same ((Keeps.refl _ _).drewN _))⟩⟩
            case measure => simp [intOf]; omega
        · obtain rfl : i = 3 * n := by omega
          have TU := Aside.mk (turns_sl F5.it.sc (by rw [rotN_len, ← HN.it]; omega))
          have e3 : rotN T (3 * n) = T := by rw [HN.it]; exact rotN_end 3
          rw [e3, ← HN.it] at TU
          have SN : Aside (∀ W a c, Keeps Nowhere wr W → W.ownsRow wr.heap.size 27 1 (.slice a n c) n (uv T) → Calls Tryd.prog 15 #[.slice a n c, .slice ta n tc] W fun e w' => e = .returned (.bool true) ∧ Aside (Below w.heap.size w w')) := ⟨fun W a c k o => by
            have F6 := F5.it.idle (Sn.same k)
            refine (same_nums (.slice a n c) (.slice ta n tc) T (owns_rdU o) (owns_rdU F6.tu.1)).mono ?_
            rintro e w' ⟨rfl, k'⟩
            obtain ⟨p, r, h7⟩ := (F6.idle (Sn.same k'.it)).sc
            exact ⟨rfl, ⟨h7.ln.g.g.bel⟩⟩⟩
          go_wp2_with (first
            | (go_at_call 15; refine (SN.it w6 a6 c6 k6.it o6.it).mono ?_; rintro e w7 ⟨rfl, b7⟩)
            | (go_at_call 11; refine TU.it.mono ?_; rintro e w6 ⟨a6, c6, rfl, o6, k6⟩)
            | fail)
          go_ret
          exact ⟨rfl, b7.it⟩
end Go.Proofs.YthlblimocfefpaaDoor
