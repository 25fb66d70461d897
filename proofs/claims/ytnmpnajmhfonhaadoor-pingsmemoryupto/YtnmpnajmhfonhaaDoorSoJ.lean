/-
  slices.Sort of numbers of 32 bits: pdqsort, Sort
-/
import Derived.Test.YtnmpnajmhfonhaaDoorSoC
import Derived.Test.YtnmpnajmhfonhaaDoorSoE
import Derived.Test.YtnmpnajmhfonhaaDoorSoF
import Derived.Test.YtnmpnajmhfonhaaDoorSoH
import Derived.Test.YtnmpnajmhfonhaaDoorSoI
namespace Go.Proofs.YtnmpnajmhfonhaaDoor
open Go.RowKit Go.Sort

theorem So.from {w W w' : World} {g off cap : Nat} {d d' : Array Nat} (h : So w g off cap d W) (h' : So W g off cap d' w') : So w g off cap d' w' := h.trans h'

/-- what is asked of a round: whatever sorts the part sorts the whole -/
def Fin (a0 b0 : Nat) (d0 : Array Nat) (a b : Nat) (d : Array Nat) : Prop := ∀ R, PermIn a b d R → SortedIn ltN a b R → PermIn a0 b0 d0 R ∧ SortedIn ltN a0 b0 R

theorem Fin.perm {a0 b0 a b : Nat} {d0 d d' : Array Nat} (h : Fin a0 b0 d0 a b d) (hp : PermIn a b d d') : Fin a0 b0 d0 a b d' := fun R hR hs => h R (permIn_trans _ _ _ a b hp hR) hs

set_option maxRecDepth 20000 in
set_option maxHeartbeats 8000000 in
theorem pdq32 : ∀ (k : Nat) (g off cap a0 b0 l0 : Nat) (d0 : Array Nat) (w : World), b0 - a0 < k → Ro w g off cap d0 → a0 ≤ b0 → b0 ≤ d0.size → d0.size ≤ 4611686018427387903 → l0 ≤ 64 → Sort.Below ltN a0 b0 d0 →
    Calls Tryd.prog 44 #[.slice (some ⟨g, off, none⟩) d0.size cap, .int .i64 a0, .int .i64 b0, .int .i64 l0] w fun e w' =>
      e = .returned (.tuple #[]) ∧ ∃ d', Aside (PermIn a0 b0 d0 d' ∧ SortedIn ltN a0 b0 d' ∧ So w g off cap d' w') := by
  intro k
  induction k with
  | zero => intro g off cap a0 b0 l0 d0 w hk; omega
  | succ k ih =>
  intro g off cap a0 b0 l0 d0 w hk h hab hb hs hl hB
  obtain ⟨N, hN⟩ : ∃ N, d0.size = N := ⟨_, rfl⟩
  have IH := Aside.mk ih
  have H := Aside.mk h
  have HN := Aside.mk hN
  have HB0 := Aside.mk hB
  have hcap : N ≤ cap := hN ▸ h.le
  rw [hN] at hb hs ⊢
  clear h hN ih hB
  go_enter Tryd.func44, Tryd.ntmps44
  go_wp2_with fail
  go_loopw [1, 2, 3, 8, 9] (fun va vb vl v8 v9 wr => ∃ (a b l : Nat) (wb wp : Bool) (dk : Array Nat), va = .int .i64 a ∧ vb = .int .i64 b ∧ vl = .int .i64 l ∧ v8 = .bool wb ∧ v9 = .bool wp ∧ a ≤ b ∧ b ≤ N ∧ l ≤ 64 ∧ b - a ≤ b0 - a0 ∧ dk.size = N ∧ Sort.Below ltN a b dk ∧ So w g off cap dk wr ∧ Fin a0 b0 d0 a b dk) (fun va vb _ _ _ _ => natOf vb - natOf va)
  case atStart => exact ⟨a0, b0, l0, true, true, d0, rfl, rfl, rfl, rfl, rfl, hab, hb, hl, Nat.le_refl _, HN.it, HB0.it, So.refl H.it, fun R hR hs => ⟨hR, hs⟩⟩
  case round =>
    clear hl hab HB0 H
    obtain ⟨a, b, l, wb, wp, dk, rfl, rfl, rfl, rfl, rfl, hab, hbN, hl, hlen, hsk, hB, hS, hF⟩ := hrel
    obtain ⟨n, hn⟩ : ∃ n, b - a = n := ⟨_, rfl⟩
    have en : (b : Int) - a = n := by omega
    have hbn : a + n = b := by omega
    have HB := Aside.mk hB
    have HS := Aside.mk hS
    have HF := Aside.mk hF
    have HSK := Aside.mk hsk
    clear hB hS hF hsk
    by_cases h12 : n ≤ 12
    · have h12' : (n : Int) ≤ 12 := by omega
      have C := Aside.mk (insertion32 g off cap a b dk wr HS.it.r (by rw [HSK.it]; exact hbN) hab (by rw [HSK.it]; exact hs))
      rw [HSK.it] at C
      go_wp2_with fail
      refine C.it.mono ?_
      rintro e w1 ⟨rfl, S1⟩
      go_wp2_with fail
      (try simp only [Exit.inBlock, Exit.then]); refine bodyPost_ret (results_none rfl _ _ _) rfl ?_
      obtain ⟨p1, p2⟩ := insertionSort_holds (lt := ltN) swo_ltN dk a b hab (by rw [HSK.it]; exact hbN)
      obtain ⟨q1, q2⟩ := HF.it _ p1 p2
      exact ⟨rfl, _, ⟨q1, q2, HS.it.trans S1.it⟩⟩
    · have h12' : ¬ (n : Int) ≤ 12 := by omega
      by_cases hl0 : l = 0
      · subst hl0
        have C := Aside.mk (heap32 g off cap a n dk wr HS.it.r (by omega) (by rw [HSK.it]; omega) (by rw [HSK.it]; exact hs))
        rw [HSK.it, hbn] at C
        go_wp2_with fail
        refine C.it.mono ?_
        rintro e w1 ⟨rfl, S1⟩
        go_wp2_with fail
        (try simp only [Exit.inBlock, Exit.then]); refine bodyPost_ret (results_none rfl _ _ _) rfl ?_
        obtain ⟨p1, p2⟩ := heapSort_holds (lt := ltN) swo_ltN dk a b hab (by rw [HSK.it]; exact hbN)
        obtain ⟨q1, q2⟩ := HF.it _ p1 p2
        exact ⟨rfl, _, ⟨q1, q2, HS.it.trans S1.it⟩⟩
      · have hl0' : ((l : Int) == 0) = false := by simp; omega
        go_upto_if 35 with fail
        go_cut [3] from 19 to 133 (fun v wx => ∃ (l' : Nat) (d1 : Array Nat), v = .int .i64 l' ∧ l' ≤ 64 ∧ Aside (d1.size = N ∧ PermIn a b dk d1 ∧ So w g off cap d1 wx))
        case first =>
          cases wb
          · have C := Aside.mk (break32 g off cap a n dk wr HS.it.r (by omega) (by rw [HSK.it]; omega) (by rw [HSK.it]; exact hs))
            rw [HSK.it, hbn] at C
            go_wp2_with fail
            refine C.it.mono ?_
            rintro e w1 ⟨rfl, d1, S1⟩
            go_wp2_with fail
            go_meet
            case rel => exact ⟨l - 1, d1, by congr 1; omega, by omega, ⟨by rw [S1.it.1.1]; exact HSK.it, S1.it.1, HS.it.trans S1.it.2⟩⟩
          · go_wp2_with fail
            go_meet
            case rel => exact ⟨l, dk, rfl, hl, ⟨HSK.it, permIn_refl _ _ _, HS.it⟩⟩
        case rest =>
        obtain ⟨l', d1, rfl, hl', X1⟩ := hcut
        have Z1 := Aside.mk X1.it.1
        have S1 := Aside.mk X1.it.2.2
        have F1 := Aside.mk (HF.it.perm X1.it.2.1)
        have B1 := Aside.mk (HB.it.perm (by rw [HSK.it]; exact hbN) X1.it.2.1)
        clear X1 HS HF HB HSK hl hl0 hl0' dk
        have C := Aside.mk (pivot32 g off cap a n d1 wc S1.it.r (by omega) (by rw [Z1.it]; omega) (by rw [Z1.it]; exact hs))
        rw [Z1.it, hbn] at C
        go_wp2_with fail
        refine C.it.mono ?_
        rintro e w2 ⟨p, hint, rfl, hp1, hp2, hh, K2⟩
        have S2 := Aside.mk (S1.it.other K2.it (fun x => x) (fun k e => e.elim))
        clear C S1 K2
        go_upto_if 50 with fail
        go_cut [11, 12] from 19 to 133 (fun vp vh wx => ∃ (p hint : Nat) (d2 : Array Nat), vp = .int .i64 p ∧ vh = .int .i64 hint ∧ a ≤ p ∧ p < b ∧ Aside (d2.size = N ∧ PermIn a b d1 d2 ∧ So w g off cap d2 wx))
        case first =>
          by_cases h2 : hint = 2
          · subst h2
            have C := Aside.mk (reverse32 g off cap a b d1 w2 S2.it.r (by omega) (by rw [Z1.it]; exact hbN) (by rw [Z1.it]; exact hs))
            rw [Z1.it] at C
            go_wp2_with fail
            refine C.it.mono ?_
            rintro e w3 ⟨rfl, d2, X⟩
            go_wp2_with fail
            go_meet
            case rel => exact ⟨b - 1 - (p - a), 1, d2, by congr 1; omega, rfl, by omega, by omega, ⟨by rw [X.it.1.1]; exact Z1.it, X.it.1, S2.it.trans X.it.2⟩⟩
          · have h2' : ((hint : Int) == 2) = false := by simp; omega
            go_wp2_with fail
            go_meet
            case rel => exact ⟨p, hint, d1, rfl, rfl, hp1, hp2, ⟨Z1.it, permIn_refl _ _ _, S2.it⟩⟩
        case rest =>
        clear hp1 hp2 hh p hint
        obtain ⟨p, hint, d2, rfl, rfl, hp1, hp2, X2⟩ := hcut
        have Z2 := Aside.mk X2.it.1
        have S3 := Aside.mk X2.it.2.2
        have F2 := Aside.mk (F1.it.perm X2.it.2.1)
        have B2 := Aside.mk (B1.it.perm (by rw [Z1.it]; exact hbN) X2.it.2.1)
        clear X2 F1 B1 Z1 S2 d1
        generalize wc = w3 at S3 ⊢
        go_upto_region 15 with fail
        go_cut [68] from 19 to 133 (fun v wx => ∃ c : Bool, v = .bool c ∧ wx = w3)
        case first =>
          cases wb <;> cases wp <;> by_cases h1 : hint = 1
          all_goals
            try subst h1
            try have h1' : ((hint : Int) == 1) = false := by simp; omega
            go_wp2_with fail
            go_meet
            case rel => exact ⟨_, rfl, rfl⟩
        case rest =>
        obtain ⟨c, rfl, rfl⟩ := hcut
        generalize wc = w3 at S3 ⊢
        go_upto_if 68 with fail
        go_cut [68] from 19 to 133 (fun _ wx => ∃ d3 : Array Nat, Aside (d3.size = N ∧ PermIn a b d2 d3 ∧ So w g off cap d3 wx))
        case first =>
          cases c
          · go_wp2_with fail
            go_meet
            case rel => exact ⟨d2, ⟨Z2.it, permIn_refl _ _ _, S3.it⟩⟩
          · have C := Aside.mk (partial32 g off cap a b d2 w3 S3.it.r (by omega) (by rw [Z2.it]; exact hbN) (by rw [Z2.it]; exact hs))
            have P := Aside.mk (partialInsertionSort_holds (lt := ltN) swo_ltN d2 a b (by omega) (by rw [Z2.it]; exact hbN) B2.it)
            rw [Z2.it] at C
            obtain ⟨⟨d3, rr⟩, hE⟩ : ∃ R, Sort.partialInsertionSort ltN d2 a b = R := ⟨_, rfl⟩
            rw [hE] at C P
            clear hE
            go_wp2_with fail
            refine C.it.mono ?_
            rintro e w4 ⟨rfl, S4⟩
            cases rr
            · go_wp2_with fail
              go_meet
              case rel => exact ⟨d3, ⟨by rw [P.it.1.1]; exact Z2.it, P.it.1, S3.it.trans S4.it⟩⟩
            · go_wp2_with fail
              (try simp only [Exit.inBlock, Exit.then]); refine bodyPost_ret (results_none rfl _ _ _) rfl ?_
              obtain ⟨q1, q2⟩ := F2.it _ P.it.1 (P.it.2 (by trivial))
              exact ⟨rfl, _, ⟨q1, q2, S3.it.trans S4.it⟩⟩
        case rest =>
        obtain ⟨d3, X3⟩ := hcut
        have Z3 := Aside.mk X3.it.1
        have S4 := Aside.mk X3.it.2.2
        have F3 := Aside.mk (F2.it.perm X3.it.2.1)
        have B3 := Aside.mk (B2.it.perm (by rw [Z2.it]; exact hbN) X3.it.2.1)
        clear X3 F2 B2 Z2 S3 d2
        generalize wc = w4 at S4 ⊢
        obtain ⟨G, HG, hcw, hfw⟩ := S4.it.r.names Z3.it
        go_upto_region 17 with fail
        go_cut [87] from 19 to 133 (fun v wx => ∃ q, v = .bool (decide (0 < a) && !ltN d3[a - 1]! d3[p]!) ∧ wx = w4.drewN q)
        case first =>
          by_cases h1 : 0 < a
          · have h1z : (0 : Int) < a := by omega
            go_wp2_with fail
            go_big_quiet (first | (go_at_call 53; refine Calls.quiet_of_same (less32 _ _ _)))
            go_wp2_with fail
            go_meet
            case rel =>
              refine ⟨nq, ?_, rfl⟩
              rw [← HG.it, ← HG.it]
              simp [h1]
          · have h1z : decide ((0 : Int) < a) = false := decide_eq_false (by omega)
            go_wp2_with fail
            go_big_quiet (first | (go_at_call 53; refine Calls.quiet_of_same (less32 _ _ _)))
            go_wp2_with fail
            go_meet
            case rel =>
              refine ⟨nq, ?_, rfl⟩
              simp [h1]
        case rest =>
        obtain ⟨q, rfl, rfl⟩ := hcut
        obtain ⟨cb, hcb⟩ : ∃ cb, (decide (0 < a) && !ltN d3[a - 1]! d3[p]!) = cb := ⟨_, rfl⟩
        rw [hcb]
        have HCB := Aside.mk hcb
        have S5 := Aside.mk (S4.it.drewN q)
        clear hcb hcw hfw S4 HG
        generalize w4.drewN q = w5 at S5 ⊢
        cases cb
        · obtain ⟨⟨mid, ap, d4⟩, hx⟩ : ∃ R, Sort.partition ltN d3 a b p = R := ⟨_, rfl⟩
          obtain ⟨g1, g2, hs4, hBa, hBr, hleft, hright⟩ := round_part swo_ltN (partition_holds _) hp1 hp2 (by rw [Z3.it]; exact hbN) B3.it hx
          have C := Aside.mk (part32 g off cap a b p d3 w5 S5.it.r hp1 hp2 (by rw [Z3.it]; exact hbN) (by rw [Z3.it]; exact hs))
          rw [Z3.it, hx] at C
          have HL := Aside.mk hleft
          have HR := Aside.mk hright
          have Z4 := Aside.mk (show d4.size = N by rw [hs4]; exact Z3.it)
          have BA := Aside.mk hBa
          have BR := Aside.mk hBr
          clear hx hleft hright hs4 hBa hBr
          go_wp2_with fail
          refine C.it.mono ?_
          rintro e w6 ⟨ap', rfl, S6⟩
          have S7 := Aside.mk (S5.it.trans S6.it)
          clear C S6 S5
          obtain ⟨m1, hm1⟩ : ∃ m1, mid + 1 = m1 := ⟨_, rfl⟩
          have em1 : (mid : Int) + 1 = m1 := by omega
          rw [hm1] at HL HR BR
          by_cases hlr : mid - a < b - mid
          · have hlr' : (mid : Int) - a < b - mid := by omega
            have C := Aside.mk (IH.it g off cap a mid l' d4 w6 (by omega) S7.it.r g1 (by rw [Z4.it]; omega) (by rw [Z4.it]; exact hs) hl' BA.it)
            rw [Z4.it] at C
            clear hm1
            go_wp2_with fail
            refine C.it.mono ?_
            rintro e w8 ⟨rfl, d5, X⟩
            go_wp2_with fail
            go_roundw
            case rel =>
              obtain ⟨hBL, hfin⟩ := HL.it d5 X.it.1 X.it.2.1
              refine ⟨m1, b, l', _, _, d5, rfl, rfl, rfl, rfl, rfl, by omega, hbN, hl', by omega, by rw [X.it.1.1]; exact Z4.it, hBL, S7.it.trans X.it.2.2, fun R hR hsR => ?_⟩
              obtain ⟨q1, q2⟩ := hfin R hR hsR
              exact F3.it R q1 q2
            case measure => simp [natOf]; omega
          · have hlr' : ¬ (mid : Int) - a < b - mid := by omega
            have C := Aside.mk (IH.it g off cap m1 b l' d4 w6 (by omega) S7.it.r (by omega) (by rw [Z4.it]; omega) (by rw [Z4.it]; exact hs) hl' BR.it)
            rw [Z4.it] at C
            clear hm1
            go_wp2_with fail
            refine C.it.mono ?_
            rintro e w8 ⟨rfl, d5, X⟩
            go_wp2_with fail
            go_roundw
            case rel =>
              obtain ⟨hBL, hfin⟩ := HR.it d5 X.it.1 X.it.2.1
              refine ⟨a, mid, l', _, _, d5, rfl, rfl, rfl, rfl, rfl, g1, by omega, hl', by omega, by rw [X.it.1.1]; exact Z4.it, hBL, S7.it.trans X.it.2.2, fun R hR hsR => ?_⟩
              obtain ⟨q1, q2⟩ := hfin R hR hsR
              exact F3.it R q1 q2
            case measure => simp [natOf]; omega
        · have hcb := HCB.it
          simp only [Bool.and_eq_true, decide_eq_true_eq, Bool.not_eq_true'] at hcb
          obtain ⟨⟨mid, d4⟩, hx⟩ : ∃ R, Sort.partitionEqual ltN d3 a b p = R := ⟨_, rfl⟩
          obtain ⟨g1, g2, hs4, hB4, hfin⟩ := round_eq swo_ltN (partitionEqual_holds _) hcb.1 hp1 hp2 (by rw [Z3.it]; exact hbN) B3.it hcb.2 hx
          have C := Aside.mk (partEq32 g off cap a b p d3 w5 S5.it.r hp1 hp2 (by rw [Z3.it]; exact hbN) (by rw [Z3.it]; exact hs))
          rw [Z3.it, hx] at C
          have HFIN := Aside.mk hfin
          have Z4 := Aside.mk (show d4.size = N by rw [hs4]; exact Z3.it)
          have B4 := Aside.mk hB4
          clear hx hfin hs4 hB4 hcb
          go_wp2_with fail
          refine C.it.mono ?_
          rintro e w6 ⟨rfl, S6⟩
          go_wp2_with fail
          go_roundw
          case rel =>
            refine ⟨mid, b, l', wb, wp, d4, rfl, rfl, rfl, rfl, rfl, g2, hbN, hl', by omega, Z4.it, B4.it, S5.it.trans S6.it, fun R hR hsR => ?_⟩
            obtain ⟨q1, q2⟩ := HFIN.it R hR hsR
            exact F3.it R q1 q2
          case measure => simp [natOf]; omega

theorem sort_list (d d' : Array Nat) (h : PermIn 0 d.size d d') (hs : SortedIn ltN 0 d.size d') : d'.toList = d.toList.mergeSort (fun x y => decide (x ≤ y)) := by
  have := sorted_unique_holds (lt := ltN) swo_ltN (fun x y h1 h2 => by simp [ltN] at h1 h2; omega) d d' h hs
  rw [this]
  congr 1
  funext x y
  unfold ltN
  by_cases e : x ≤ y
  · simp [e]
  · have : y < x := by omega
    simp [e, this]

/-- slices.Sort: the row rises -/
theorem sort32 (g cap : Nat) (ks : List Nat) (w : World) (h : w.ownsRow 0 37 1 (.slice (some ⟨g, 0, none⟩) ks.length cap) ks.length (ks.map e32)) (hs : ks.length ≤ 4611686018427387903) :
    Calls Tryd.prog 38 #[.slice (some ⟨g, 0, none⟩) ks.length cap] w fun e w' =>
      e = .returned (.tuple #[]) ∧ Aside (w'.ownsRow 0 37 1 (.slice (some ⟨g, 0, none⟩) ks.length cap) ks.length ((ks.mergeSort (fun x y => decide (x ≤ y))).map e32) ∧ Keeps (fun k => k = g) w w') := by
  have R : Ro w g 0 cap ks.toArray := ⟨rfl, by simpa using h⟩
  have hl64 : Lib.bitLen ks.length ≤ 64 := by
    rcases Nat.eq_zero_or_pos ks.length with e | e
    · rw [e]; decide
    · have := bitLen_le ks.length hs e; omega
  have C := Aside.mk (pdq32 (ks.length + 1) g 0 cap 0 ks.length (Lib.bitLen ks.length) ks.toArray w (by omega) R (Nat.zero_le _) (by simp) (by simpa using hs) hl64 (.inl rfl))
  have L : Aside (Calls Tryd.prog 45 #[.int .u64 (ks.length : Int)] w fun e w' => e = .returned (.int .i64 (Lib.bitLen ks.length : Nat)) ∧ w' = w) := ⟨by
    have h := Tryd.bits_Len (ks.length : Int) w (by omega) (by omega)
    rwa [Int.toNat_natCast] at h⟩
  obtain ⟨n, hn⟩ : ∃ n, ks.length = n := ⟨_, rfl⟩
  have hu : IntKind.u64.wrap (n : Int) = n := by simp [IntKind.wrap, IntKind.bits, IntKind.signed]; omega
  have HN := Aside.mk hn
  rw [List.size_toArray] at C
  rw [hn] at C L hs hl64 ⊢
  clear hl64
  generalize Lib.bitLen n = l at C L
  clear h R hn
  go_enter Tryd.func38, Tryd.ntmps38
  go_wp2_with (first | (go_at_call 45; refine L.it.mono ?_; rintro e w' ⟨rfl, rfl⟩) | (go_at_call 44; refine C.it.mono ?_; rintro e w' ⟨rfl, d', X⟩))
  go_end0
  refine ⟨rfl, ⟨?_, X.it.2.2.k⟩⟩
  have hz : d'.size = n := by rw [X.it.1.1, List.size_toArray]; exact HN.it
  have e1 := sort_list ks.toArray d' (by rw [List.size_toArray, HN.it]; exact X.it.1) (by rw [List.size_toArray, HN.it]; exact X.it.2.1)
  have r := X.it.2.2.r.2
  rw [hz, e1] at r
  simpa using r
end Go.Proofs.YtnmpnajmhfonhaaDoor
