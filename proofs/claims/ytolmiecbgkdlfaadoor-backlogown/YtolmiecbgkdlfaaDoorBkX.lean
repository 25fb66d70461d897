/-
  culvertlaw16.BacklogOrder
-/
import Derived.Test.YtolmiecbgkdlfaaDoorBkV
import Derived.Deep.CutBlock
namespace Go.Proofs.YtolmiecbgkdlfaaDoor
open Go.RowKit

variable {A : Nat → Addr} {w w' W w0 : World} {own own' : Nat → Nat} {i p most nb b wb : Nat} {L Lp Ld Ln : List Nat} {v vn : Value} {I : Nat → Prop} {kd m : Int} {id : Nat}

/-- a list of numbers that can be read -/
def RdA (w : World) (v : Value) (l : List Nat) : Prop := ∃ a c, v = .slice a l.length c ∧ l.length ≤ c ∧ ∀ j x, l[j]? = some x → ∃ g o, a = some ⟨g, o, none⟩ ∧ w.cell? ⟨g, o + j, none⟩ = some (.int .u32 (x : Nat))
theorem RdA.quiet (h : RdA w v L) (hk : Keeps Nowhere w w') : RdA w' v L := by
  obtain ⟨a, c, e, h1, hc⟩ := h
  refine ⟨a, c, e, h1, fun j x hj => ?_⟩
  obtain ⟨g, o, ha, hx⟩ := hc j x hj
  exact ⟨g, o, ha, by rw [World.cell?_of_block (w := w) (hk.block g (World.block_lt_of_cell? w _ hx) (fun x => x))]; exact hx⟩
theorem RdA.of (h : U32sArg w v L) : RdA w v L := by
  obtain ⟨⟨a, c, e, h1, _, hc⟩, _⟩ := h
  refine ⟨a, c, e, h1, fun j x hj => ?_⟩
  obtain ⟨b, o, cs, ha, ⟨rfl, _⟩, _, hx⟩ := hc j x hj
  have := hx 0 (by decide)
  rw [Nat.mul_one, Nat.add_zero] at this
  exact ⟨b, o, ha, this⟩
set_option maxHeartbeats 1000000 in
theorem rises_ok (a b : Value) (ids l : List Nat) (ha : RdA w a ids) (hb : RdA w b l) (hs : l.Sublist ids) (hl : l.length ≤ 1024) (hi : ids.length ≤ 140737488351232) :
    Calls Tryd.prog 19 #[a, b] w fun e w' => e = .returned (.bool true) ∧ Aside (Keeps Nowhere w w') := by
  obtain ⟨pa, ca, rfl, hla, hca⟩ := ha
  obtain ⟨pb, cb, rfl, hlb, hcb⟩ := hb
  obtain ⟨n, hn⟩ : ∃ n, ids.length = n := ⟨_, rfl⟩
  obtain ⟨q, hq⟩ : ∃ q, l.length = q := ⟨_, rfl⟩
  have HN := Aside.mk hn
  have HQ := Aside.mk hq
  have HS := Aside.mk hs
  rw [hn] at hla hi ⊢
  rw [hq] at hlb hl ⊢
  have CA := Aside.mk hca
  have CB := Aside.mk hcb
  clear hca hcb hn hq hs
  go_enter Tryd.func19, Tryd.ntmps19
  go_upto_region 3 with fail
  go_loopw [5, 6] (fun kv iv wr => ∃ k i : Nat, kv = .int .i64 k ∧ iv = .int .i64 i ∧ k ≤ q ∧ i ≤ n ∧ Aside ((l.drop k).Sublist (ids.drop i)) ∧ Aside (Keeps Nowhere w wr)) (fun _ iv _ => n - natOf iv)
  case atStart => exact ⟨0, 0, rfl, rfl, Nat.zero_le _, Nat.zero_le _, HS, ⟨Keeps.refl _ _⟩⟩
  case round =>
    obtain ⟨k, i, rfl, rfl, hk, hin, J, K⟩ := hrel
    by_cases hi2 : i < n
    · have hi2' : (i : Int) < n := by omega
      have hi2d : decide (i < n) = true := decide_eq_true hi2
      by_cases hk2 : k < q
      · have hk2' : (k : Int) < q := by omega
        have hk2d : decide (k < q) = true := decide_eq_true hk2
        obtain ⟨x, hx⟩ : ∃ x, ids[i]? = some x := ⟨_, List.getElem?_eq_getElem (by rw [HN.it]; exact hi2)⟩
        obtain ⟨y, hy⟩ : ∃ y, l[k]? = some y := ⟨_, List.getElem?_eq_getElem (by rw [HQ.it]; exact hk2)⟩
        obtain ⟨g, o, rfl, hxc⟩ := CA.it i x hx
        obtain ⟨g2, o2, rfl, hyc⟩ := CB.it k y hy
        have cx : wr.cell? ⟨g, o + i, none⟩ = some (.int .u32 (x : Nat)) := by rw [K.it.bel.cell (World.block_lt_of_cell? w _ hxc)]; exact hxc
        have cy : wr.cell? ⟨g2, o2 + k, none⟩ = some (.int .u32 (y : Nat)) := by rw [K.it.bel.cell (World.block_lt_of_cell? w _ hyc)]; exact hyc
        have hdx : ids.drop i = x :: ids.drop (i + 1) := by
          rw [List.drop_eq_getElem_cons (by rw [HN.it]; exact hi2)]
          rw [List.getElem?_eq_getElem (by rw [HN.it]; exact hi2)] at hx
          rw [Option.some.inj hx]
        have hdy : l.drop k = y :: l.drop (k + 1) := by
          rw [List.drop_eq_getElem_cons (by rw [HQ.it]; exact hk2)]
          rw [List.getElem?_eq_getElem (by rw [HQ.it]; exact hk2)] at hy
          rw [Option.some.inj hy]
        have j1 := J.it
        rw [hdx, hdy] at j1
        by_cases hxy : x = y
        · subst hxy
          have J2 := Aside.mk (List.cons_sublist_cons.1 j1)
          have e1 : ((x : Int) == x) = true := by simp
          clear hxc hyc hx hy hdx hdy j1 J CA CB
          go_wp2_with fail
          go_quiet (fail)
          go_wp2
          go_roundw
          case rel => exact ⟨k + 1, i + 1, by go_num, by go_num, by omega, by omega, J2, ⟨K.it.drewN _⟩⟩
          case measure => simp [natOf]; omega
        · have J2 : Aside ((l.drop k).Sublist (ids.drop (i + 1))) := ⟨by
            rw [hdy]
            cases j1 with
            | cons _ h => exact h
            | cons_cons _ h => exact absurd rfl hxy⟩
          have e1 : ((x : Int) == y) = false := beq_eq_false_iff_ne.2 (by omega)
          clear hxc hyc hx hy hdx hdy j1 J CA CB hxy
          go_wp2_with fail
          go_quiet (fail)
          go_wp2
          go_roundw
          case rel => exact ⟨k, i + 1, rfl, by go_num, by omega, by omega, J2, ⟨K.it.drewN _⟩⟩
          case measure => simp [natOf]; omega
      · obtain rfl : k = q := by omega
        have e1 : ((k : Int) == k) = true := by simp
        go_wp2
        go_ret
        exact ⟨rfl, K⟩
    · obtain rfl : i = n := by omega
      have hkq : k = q := by
        have h1 := J.it
        rw [show ids.drop i = [] from List.drop_eq_nil_of_le (by rw [HN.it]; exact Nat.le_refl _)] at h1
        have h2 := List.drop_eq_nil_iff.1 (List.sublist_nil.1 h1)
        rw [HQ.it] at h2
        omega
      subst hkq
      have e1 : ((k : Int) == k) = true := by simp
      go_wp2
      go_ret
      exact ⟨rfl, K⟩

/-- the Backlog of the law -/
structure Bs (A : Nat → Addr) (w0 : World) (own : Nat → Nat) (W : World) (p : Nat) (L : List Nat) : Prop where
  g : OnG A w0 own W
  t : BkO own 1 W p 1024 L
  u : L.Nodup
theorem Bs.quiet (h : Bs A w0 own W p L) (hk : Keeps Nowhere W w') : Bs A w0 own w' p L := ⟨h.g.quiet hk, h.t.quiet hk, h.u⟩
theorem Bs.bel (h : Bs A w0 own W p L) : Keeps Nowhere w0 W := Keeps.ofBelow h.g.g.bel
theorem filter_len {L : List Nat} (h : L.Nodup) {id : Nat} (hm : id ∈ L) : (L.filter (fun x => !(x == id))).length + 1 = L.length := by
  rw [← erase_filter h, List.length_erase_of_mem hm]
  have := List.length_pos_of_mem hm
  omega
theorem filter_none {L : List Nat} {id : Nat} (hm : id ∉ L) : L.filter (fun x => !(x == id)) = L := by
  rw [List.filter_eq_self]
  intro x hx
  simp only [Bool.not_eq_eq_eq_not, Bool.not_true, beq_eq_false_iff_ne]
  exact fun e => hm (e ▸ hx)

set_option maxRecDepth 20000 in
set_option maxHeartbeats 8000000 in
theorem backlogOrder_walk {A : Nat → Addr} (s1 : Value) (ids : List Nat) (s2 : Value) (gone : List Nat) (w : World) (hs : Sents 92 codeVars A w) (h1 : U32sArg w s1 ids) (h2 : U32sArg w s2 gone) :
    Calls Tryd.prog 4 #[s1, s2] w fun e w' => e = .returned (.bool true) ∧ Below w.heap.size w w' := by
  have hb1 := h1.2
  have hb2 := h2.2
  have R1 := Aside.mk (RdA.of h1)
  have R2 := Aside.mk (RdA.of h2)
  obtain ⟨pa, ca, rfl, hla, hca⟩ := RdA.of h1
  obtain ⟨pb, cb, rfl, hlb, hcb⟩ := RdA.of h2
  obtain ⟨N, hN⟩ : ∃ N, ids.length = N := ⟨_, rfl⟩
  obtain ⟨M, hM⟩ : ∃ M, gone.length = M := ⟨_, rfl⟩
  have HN := Aside.mk hN
  have HM := Aside.mk hM
  rw [hN] at hla hb1 ⊢
  rw [hM] at hlb hb2 ⊢
  have CA := Aside.mk hca
  have CB := Aside.mk hcb
  have WK := Aside.mk (awake16 hs)
  have HS := Aside.mk hs
  have hNm : (N : Int) ≤ 9223372036854775806 := by omega
  have hMm : (M : Int) ≤ 9223372036854775806 := by omega
  clear hs hN hM hca hcb h1 h2
  go_enter Tryd.func4, Tryd.ntmps4
  go_upto_region 3 with (go_at_call 6; refine WK.it.mono ?_; rintro e w1 ⟨rfl, K1⟩)
  clear WK
  have NW := Aside.mk (bnew_ok 1024 (by decide) (by decide) w1 (fun _ => 0) 1)
  go_upto_region 4 with (go_at_call 7; refine NW.it.mono ?_; clear NW; rintro e w2 ⟨p, rfl, T2, _, K2⟩)
  obtain ⟨own2, B2⟩ : ∃ own2, Aside (Bs A w own2 w2 p []) := ⟨_, ⟨((OnG.start HS.it).sn (I := fun _ => False) (Sn.same K1.it) (fun x => x)).sn (I := fun _ => False) (Sn.quiet K2.it 1) (fun x => x), T2.it, List.nodup_nil⟩⟩
  clear T2
  go_upto_region 8 with fail
  go_loopw [7, 8, 9, 10] (fun nv iv _ _ wr => ∃ (j : Nat) (L : List Nat) (own : Nat → Nat), iv = .int .i64 j ∧ nv = .int .i64 L.length ∧ j ≤ N ∧ Aside (Bs A w own wr p L) ∧ Aside (L.Sublist (ids.take j))) (fun _ iv _ _ _ => N - natOf iv)
  case atStart => exact ⟨0, [], own2, rfl, rfl, Nat.zero_le _, B2, ⟨List.nil_sublist _⟩⟩
  case round =>
    clear B2
    obtain ⟨j, L, own, rfl, rfl, hj, B, SB⟩ := hrel
    have hll := B.it.t.len
    rcases Nat.eq_or_lt_of_le hj with rfl | hlt
    · have SB2 : Aside (L.Sublist ids) := ⟨by have := SB.it; rwa [List.take_of_length_le (by rw [HN.it]; exact Nat.le_refl _)] at this⟩
      clear SB CA
      go_upto_region 21 with fail
      go_loopw [7, 11, 12] (fun nv iv _ wr => ∃ (j : Nat) (L : List Nat) (own : Nat → Nat), iv = .int .i64 j ∧ nv = .int .i64 L.length ∧ j ≤ M ∧ Aside (Bs A w own wr p L) ∧ Aside (L.Sublist ids)) (fun _ iv _ _ => M - natOf iv)
      case atStart => exact ⟨0, L, own, rfl, rfl, Nat.zero_le _, B, SB2⟩
      case round =>
        clear B SB2 hll
        obtain ⟨j2, L, own, rfl, rfl, hj2, B, SB⟩ := hrel
        have hll := B.it.t.len
        rcases Nat.eq_or_lt_of_le hj2 with rfl | hlt
        · have BL := Aside.mk (blist B.it.t)
          go_upto_region 29 with (first | (go_at_call 14; refine BL.it.mono ?_; clear BL; rintro e w3 ⟨vl, rfl, O3, K3⟩) | fail)
          have D3 : Aside (RdN (give own wr.heap.size 9) w3 vl L) := ⟨owns_rdN O3.it rfl (Nat.le_refl _)⟩
          have B3 : Aside (Bs A w (give own wr.heap.size 9) w3 p L) := ⟨B.it.g.sn (I := fun _ => False) (Sn.quiet K3.it 9) (fun x => x), B.it.t.step K3.it 9, B.it.u⟩
          generalize give own wr.heap.size 9 = own3 at D3 B3
          obtain ⟨va, vc, rfl⟩ := D3.it.slc
          obtain ⟨n, hn⟩ : ∃ n, L.length = n := ⟨_, rfl⟩
          have HL := Aside.mk hn
          have LN := Aside.mk (blen B3.it.t)
          rw [hn] at D3 hll LN ⊢
          have enn : ((n : Int) != n) = false := by simp
          clear hn O3 B CB
          go_upto_region 32 with (first | (go_at_call 15; refine LN.it.mono ?_; clear LN; rintro e w4 ⟨rfl, K4⟩) | fail)
          have B4 := Aside.mk (B3.it.quiet K4.it)
          have D4 := Aside.mk (D3.it.quiet K4.it)
          clear B3 D3
          go_loopw [14, 15, 16, 17, 18] (fun iv _ _ _ _ wr => ∃ (j : Nat) (own : Nat → Nat), iv = .int .i64 j ∧ j ≤ n ∧ Aside (Bs A w own wr p (L.drop j)) ∧ Aside (RdN own wr (.slice va n vc) L)) (fun iv _ _ _ _ _ => n - natOf iv)
          case atStart => exact ⟨0, own3, rfl, Nat.zero_le _, B4, D4⟩
          case round =>
            clear B4 D4
            obtain ⟨j3, own5, rfl, hj3, B, D⟩ := hrel
            rcases Nat.eq_or_lt_of_le hj3 with rfl | hlt
            · have BT := Aside.mk (btake B.it.t)
              rw [List.drop_eq_nil_of_le (by rw [HL.it]; exact Nat.le_refl _)] at BT
              go_upto_region 39 with (first | (go_at_call 17; refine BT.it.mono ?_; clear BT; rintro e w6 ⟨rfl, X6⟩) | fail)
              obtain ⟨own6, t6, s6⟩ := X6.it
              have G6 := Aside.mk (B.it.g.sn s6 (by decide))
              have D6 := Aside.mk (D.it.sn s6 (by decide))
              have BC := Aside.mk (bclear t6)
              clear t6 s6 X6 B D
              go_wp2_with (first
                | (go_at_call 19; refine RS.it.mono ?_; clear RS; rintro e w8 ⟨rfl, K8⟩)
                | (go_at_call 18; refine BC.it.mono ?_; clear BC; rintro e w7 ⟨rfl, X7⟩; obtain ⟨own7, t7, s7⟩ := X7.it; have G7 := Aside.mk (G6.it.sn s7 (by decide)); have D7 := Aside.mk (D6.it.sn s7 (by decide)); clear t7 s7 X7; have RS := Aside.mk (rises_ok _ _ ids L (R1.it.quiet (Keeps.ofBelow G7.it.g.bel)) (by have := D7.it.at; rw [HL.it] at this; unfold RdA; rw [HL.it]; exact this) SB.it (by rw [HL.it]; exact hll.1) (by rw [HN.it]; omega)); rw [HN.it] at RS)
                | fail)
              go_ret
              exact ⟨rfl, ((Keeps.ofBelow G7.it.g.bel).trans K8.it).bel⟩
            · obtain ⟨x, hx⟩ : ∃ x, L[j3]? = some x := ⟨_, List.getElem?_eq_getElem (by rw [HL.it]; exact hlt)⟩
              have hdx : L.drop j3 = x :: L.drop (j3 + 1) := by
                rw [List.drop_eq_getElem_cons (by rw [HL.it]; exact hlt)]
                have hx2 := hx
                rw [List.getElem?_eq_getElem (by rw [HL.it]; exact hlt)] at hx2
                rw [Option.some.inj hx2]
              have HB := Aside.mk B.it
              rw [hdx] at HB
              have BH := Aside.mk (bhead HB.it.t)
              rw [show hd0 (x :: L.drop (j3 + 1)) = x from rfl, show some0 (x :: L.drop (j3 + 1)) = true from rfl] at BH
              have HX := Aside.mk hx
              clear hx hdx B
              go_upto_region 35 with (first | (go_at_call 16; refine BH.it.mono ?_; clear BH; rintro e w6 ⟨rfl, K6⟩) | fail)
              have B6 := Aside.mk (HB.it.quiet K6.it)
              have D6 := Aside.mk (D.it.quiet K6.it)
              have BT := Aside.mk (btake B6.it.t)
              rw [show hd0 (x :: L.drop (j3 + 1)) = x from rfl, show some0 (x :: L.drop (j3 + 1)) = true from rfl, List.tail_cons] at BT
              clear HB D
              go_upto_region 36 with (first | (go_at_call 17; refine BT.it.mono ?_; clear BT; rintro e w7 ⟨rfl, X7⟩) | fail)
              obtain ⟨own7, t7, s7⟩ := X7.it
              have U7 := List.nodup_cons.1 B6.it.u
              have B7 : Aside (Bs A w own7 w7 p (L.drop (j3 + 1))) := ⟨B6.it.g.sn s7 (by decide), t7, U7.2⟩
              have D7 := Aside.mk (D6.it.sn s7 (by decide))
              have HH := Aside.mk (bhas B7.it.t x)
              rw [decide_eq_false U7.1] at HH
              obtain ⟨a', c', he, _, hcc⟩ := D7.it.at
              rw [HL.it] at he
              injection he with e1 _ e3
              subst e1 e3
              obtain ⟨g, o, rfl, cx⟩ := hcc j3 x HX.it
              have exx : ((x : Int) != x) = false := by simp
              have hlt' : (j3 : Int) < n := by omega
              have hge' : (0 : Int) ≤ j3 := by omega
              clear t7 s7 X7 B6 D6 U7 hcc HX
              go_wp2_with (first | (go_at_call 11; refine HH.it.mono ?_; clear HH; rintro e w8 ⟨rfl, K8⟩) | fail)
              go_roundw
              case rel => exact ⟨j3 + 1, own7, by go_num, by omega, ⟨B7.it.quiet K8.it⟩, ⟨D7.it.quiet K8.it⟩⟩
              case measure => simp [natOf]; omega
        · obtain ⟨x, hx⟩ : ∃ x, gone[j2]? = some x := ⟨_, List.getElem?_eq_getElem (by rw [HM.it]; exact hlt)⟩
          obtain ⟨g, o, rfl, hxc⟩ := CB.it j2 x hx
          have cx : wr.cell? ⟨g, o + j2, none⟩ = some (.int .u32 (x : Nat)) := by rw [B.it.bel.bel.cell (World.block_lt_of_cell? w _ hxc)]; exact hxc
          have BH := Aside.mk (bhas B.it.t x)
          go_upto_region 24 with (first | (go_at_call 11; refine BH.it.mono ?_; clear BH; rintro e w4 ⟨rfl, K4⟩) | fail)
          have B4 := Aside.mk (B.it.quiet K4.it)
          have cx4 : w4.cell? ⟨g, o + j2, none⟩ = some (.int .u32 (x : Nat)) := by rw [B4.it.bel.bel.cell (World.block_lt_of_cell? w _ hxc)]; exact hxc
          have BR := Aside.mk (brem B4.it.t x)
          have HX := Aside.mk hxc
          have HNO : Aside (x ∉ L.filter (fun y => !(y == x))) := ⟨by simp⟩
          clear hxc hx CB
          by_cases hm : x ∈ L
          · rw [decide_eq_true hm] at BR ⊢
            have LEN := Aside.mk (filter_len B.it.u hm)
            clear hm
            go_upto_if 112 with (first
              | (go_at_call 13; refine BR.it.mono ?_; clear BR; rintro e w5 ⟨rfl, X5⟩; obtain ⟨own5, t5, s5⟩ := X5.it; have B5 : Aside (Bs A w own5 w5 p (L.filter (fun y => !(y == x)))) := ⟨B4.it.g.sn s5 (by decide), t5, B4.it.u.filter _⟩; clear t5 s5 X5; have cx5 : w5.cell? ⟨g, o + j2, none⟩ = some (.int .u32 (x : Nat)) := (by rw [B5.it.bel.bel.cell (World.block_lt_of_cell? w _ HX.it)]; exact HX.it); have BH := Aside.mk (bhas B5.it.t x); rw [decide_eq_false HNO.it] at BH)
              | (go_at_call 11; refine BH.it.mono ?_; clear BH; rintro e w6 ⟨rfl, K6⟩)
              | fail)
            obtain ⟨L2, hL2⟩ : ∃ L2, L.filter (fun y => !(y == x)) = L2 := ⟨_, rfl⟩
            rw [hL2] at B5 LEN
            have SB2 : Aside (L2.Sublist ids) := ⟨by rw [← hL2]; exact List.filter_sublist.trans SB.it⟩
            have B6 := Aside.mk (B5.it.quiet K6.it)
            have eln : (L.length : Int) - 1 = L2.length := by have := LEN.it; omega
            clear hL2 LEN B5 B4 B SB HNO
            go_wp2_with fail
            go_roundw
            case rel => exact ⟨j2 + 1, L2, own5, by go_num, rfl, by omega, B6, SB2⟩
            case measure => simp [natOf]; omega
          · rw [decide_eq_false hm] at BR ⊢
            rw [filter_none hm] at BR HNO
            clear hm
            go_upto_if 112 with (first
              | (go_at_call 13; refine BR.it.mono ?_; clear BR; rintro e w5 ⟨rfl, X5⟩; obtain ⟨own5, t5, s5⟩ := X5.it; have B5 : Aside (Bs A w own5 w5 p L) := ⟨B4.it.g.sn s5 (by decide), t5, B4.it.u⟩; clear t5 s5 X5; have cx5 : w5.cell? ⟨g, o + j2, none⟩ = some (.int .u32 (x : Nat)) := (by rw [B5.it.bel.bel.cell (World.block_lt_of_cell? w _ HX.it)]; exact HX.it); have BH := Aside.mk (bhas B5.it.t x); rw [decide_eq_false HNO.it] at BH)
              | (go_at_call 11; refine BH.it.mono ?_; clear BH; rintro e w6 ⟨rfl, K6⟩)
              | fail)
            have B6 := Aside.mk (B5.it.quiet K6.it)
            clear B5 B4 B HNO
            go_wp2_with fail
            go_roundw
            case rel => exact ⟨j2 + 1, L, own5, by go_num, rfl, by omega, B6, SB⟩
            case measure => simp [natOf]; omega
    · obtain ⟨x, hx⟩ : ∃ x, ids[j]? = some x := ⟨_, List.getElem?_eq_getElem (by rw [HN.it]; exact hlt)⟩
      obtain ⟨g, o, rfl, hxc⟩ := CA.it j x hx
      have cx : wr.cell? ⟨g, o + j, none⟩ = some (.int .u32 (x : Nat)) := by rw [B.it.bel.bel.cell (World.block_lt_of_cell? w _ hxc)]; exact hxc
      have htk : ids.take (j + 1) = ids.take j ++ [x] := by rw [List.take_add_one, hx]; rfl
      have SB2 : Aside (L.Sublist (ids.take (j + 1)) ∧ (L ++ [x]).Sublist (ids.take (j + 1))) := ⟨by rw [htk]; exact ⟨SB.it.trans (List.sublist_append_left _ _), SB.it.append (List.Sublist.refl _)⟩⟩
      have BH := Aside.mk (bhas B.it.t x)
      go_upto_region 11 with (first | (go_at_call 11; refine BH.it.mono ?_; clear BH; rintro e w4 ⟨rfl, K4⟩) | fail)
      have B4 := Aside.mk (B.it.quiet K4.it)
      have cx4 : w4.cell? ⟨g, o + j, none⟩ = some (.int .u32 (x : Nat)) := by rw [B4.it.bel.bel.cell (World.block_lt_of_cell? w _ hxc)]; exact hxc
      have BP := Aside.mk (bput B4.it.t x B4.it.g.sents)
      unfold putC putL at BP
      have LB := Aside.mk hll
      clear hxc hx CA SB htk cx
      by_cases hm : x ∈ L
      · rw [if_pos hm, if_pos (.inl hm)] at BP
        rw [decide_eq_true hm]
        clear hm
        go_upto_block 2 with (first
          | (go_at_call 9; refine (code_of S5.it C5.out).mono ?_; rintro e w6 ⟨rfl, hw6⟩; subst hw6)
          | (go_at_call 12; refine BP.it.mono ?_; clear BP; rintro e w5 ⟨ev, rfl, C5, X5⟩; obtain ⟨own5, t5, s5⟩ := X5.it; have B5 : Aside (Bs A w own5 w5 p L) := ⟨B4.it.g.sn s5 (by decide), t5, B4.it.u⟩; have S5 := Aside.mk B5.it.g.sents; clear t5 s5 X5)
          | fail)
        clear cx4 B B4
        go_wp2_with fail
        go_roundw
        case rel => exact ⟨j + 1, L, own5, by go_num, rfl, by omega, B5, ⟨SB2.it.1⟩⟩
        case measure => simp [natOf]; omega
      · rw [if_neg hm] at BP
        rw [decide_eq_false hm]
        by_cases hf : 1024 ≤ L.length
        · rw [if_pos hf, if_pos (.inr hf)] at BP
          have hf1 : L.length = 1024 := by omega
          rw [hf1]
          clear hm hf hll
          go_upto_block 2 with (first
            | (go_at_call 9; refine (code_of S5.it C5.out).mono ?_; rintro e w6 ⟨rfl, hw6⟩; subst hw6)
            | (go_at_call 12; refine BP.it.mono ?_; clear BP; rintro e w5 ⟨ev, rfl, C5, X5⟩; obtain ⟨own5, t5, s5⟩ := X5.it; have B5 : Aside (Bs A w own5 w5 p L) := ⟨B4.it.g.sn s5 (by decide), t5, B4.it.u⟩; have S5 := Aside.mk B5.it.g.sents; clear t5 s5 X5)
            | fail)
          have HF := Aside.mk hf1
          clear cx4 B B4 hf1
          go_wp2_with fail
          go_roundw
          case rel => exact ⟨j + 1, L, own5, by go_num, by rw [HF.it]; rfl, by omega, B5, ⟨SB2.it.1⟩⟩
          case measure => simp [natOf]; omega
        · rw [if_neg hf, if_neg (by rintro (h | h); exact hm h; exact hf h)] at BP
          have hf1 : (L.length : Int) < 1024 := by omega
          have hf2 : ((L.length : Int) == 1024) = false := beq_eq_false_iff_ne.2 (by omega)
          have hfd : decide ((L.length : Int) < 1024) = true := decide_eq_true hf1
          have HU := Aside.mk (show (L ++ [x]).Nodup by have := putL_nodup B.it.u 1024 x; unfold putL at this; rwa [if_neg (by rintro (h | h); exact hm h; exact hf h)] at this)
          clear hm hf hll
          go_upto_block 2 with (first
            | (go_at_call 9; refine (code_of S5.it C5.out).mono ?_; rintro e w6 ⟨rfl, hw6⟩; subst hw6)
            | (go_at_call 12; refine BP.it.mono ?_; clear BP; rintro e w5 ⟨ev, rfl, C5, X5⟩; obtain ⟨own5, t5, s5⟩ := X5.it; have B5 : Aside (Bs A w own5 w5 p (L ++ [x])) := ⟨B4.it.g.sn s5 (by decide), t5, HU.it⟩; have S5 := Aside.mk B5.it.g.sents; clear t5 s5 X5)
            | fail)
          clear cx4 B B4
          go_wp2_with fail
          go_roundw
          case rel => exact ⟨j + 1, L ++ [x], own5, by go_num, by rw [List.length_append]; rfl, by omega, B5, ⟨SB2.it.2⟩⟩
          case measure => simp [natOf]; omega
end Go.Proofs.YtolmiecbgkdlfaaDoor
