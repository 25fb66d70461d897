/-
  StreamOwn: the walk.
-/
import Derived.Test.YteghehhifebhcaaDoorOOwA
import Derived.Test.YteghehhifebhcaaDoorOpenB
import Derived.Deep.DeepCutAuto
import Derived.Laws.Concat
namespace Go.Proofs.YteghehhifebhcaaDoor
open Go.RowKit

def z1000 : Cf := ⟨1000, 1000, 1000, 0, 0, 0, 0, 0⟩
def oa0 : Dm := Dm.new 7 1000 1000 1000 true
def ob0 : Dm := Dm.new 7 1000 1000 1000 false
theorem Rd.pre {w : World} {p : Option Addr} {l c n : Nat} {ns : List Int} (h : Rd w (.slice p l c) ns) (hn : n ≤ ns.length) : Rd w (.slice p n c) (ns.take n) := by
  obtain ⟨⟨a, c', e, hl, hc⟩, hnil⟩ := h
  injection e with e1 e2 e3
  subst e1 e2 e3
  refine ⟨⟨p, c, by rw [bv_length, List.length_take, Nat.min_eq_left hn], by rw [bv_length] at hl ⊢; rw [List.length_take]; omega, fun j u hj => ?_⟩, fun l' c' e => ?_⟩
  · refine hc j u ?_
    rw [bv_take] at hj
    rw [List.getElem?_take] at hj
    split at hj
    · exact hj
    · cases hj
  · injection e with e1 _ e3
    subst e1 e3
    exact hnil _ _ rfl
theorem wr_at {d : Dm} (h : d.off = false) (hc : d.closing = false) (xs : List Int) (hl : d.staged.length + xs.length ≤ d.stage) : d.wrD xs = { d with staged := d.staged ++ xs } := by
  obtain ⟨e1, e2, _⟩ := off_no h
  unfold Dm.wrD
  rw [e1, e2, hc]
  simp only [Bool.or_self, Bool.false_eq_true, if_false]
  rw [List.take_of_length_le (by omega)]
theorem ar_at {d : Dm} (h : d.deaf = false) (xs : List Int) (hl : (xs.length : Int) ≤ d.left) : d.arD xs false = { d with unread := d.unread ++ xs, left := d.left - xs.length } := by
  unfold Dm.arD
  rw [h]
  simp only [Bool.false_eq_true, if_false]
  rw [if_neg (by omega)]
theorem rd_at {d : Dm} (h : d.heard = false) (m : Int) : (d.rdD m).unread = d.unread.drop (d.rdK m) ∧ (d.rdD m).heard = false := by
  have : d.rdE m ≠ 25 := by
    unfold Dm.rdE
    rw [h]
    repeat' split
    all_goals first | decide | simp_all
  unfold Dm.rdD
  rw [if_neg this]
  exact ⟨rfl, h⟩
section
variable {own : Nat → Nat} {W w0 : World} {A : Nat → Addr}
set_option maxRecDepth 20000 in
theorem owOpen (h : Gs A w0 own W) : Calls Tryd.prog 8 #[.agg #[.int .i64 1000, .int .i64 1000, .int .i64 1000, .int .i64 0, .int .i64 0, .int .i64 0, .int .i64 0, .int .i64 0]] W fun e w' => ∃ pa pb own', e = .returned (.tuple #[ptr pa, ptr pb]) ∧ Aside (Ow A w0 own' w' pa pb oa0 ob0 []) := by
  have K0 : Keeps Nowhere W (W.alloc (.cells #[.int .i64 1000, .int .i64 1000, .int .i64 1000, .int .i64 0, .int .i64 0, .int .i64 0, .int .i64 0, .int .i64 0] 23)) := (Keeps.refl _ _).alloc _
  have C0 := Aside.mk (Cells.new W 23 [.int .i64 1000, .int .i64 1000, .int .i64 1000, .int .i64 0, .int .i64 0, .int .i64 0, .int .i64 0, .int .i64 0])
  have G0 := Aside.mk (h.quiet K0)
  clear h K0
  go_enter Tryd.func8, Tryd.ntmps8
  go_wp2_with (first
    | (have _u := X1; clear _u; go_at_call 9; refine (newS_ok z1000 7 false (by decide) (by decide) (by decide) G1.it.st own1 6).mono ?_; rintro e w2 ⟨pb, own2, rfl, X2⟩)
    | (go_at_call 9; refine (newS_ok z1000 7 true (by decide) (by decide) (by decide) G0.it.st own 1).mono ?_; rintro e w1 ⟨pa, own1, rfl, X1⟩
       have G1 := Aside.mk (G0.it.sn X1.it.2.2 (fun x => x))
       have C1 := C0.it.later X1.it.2.2.keeps (fun x => x)
       have y0 := C1.cell 0
       have y1 := C1.cell 1
       have y2 := C1.cell 2
       have y3 := C1.cell 3
       have y4 := C1.cell 4
       have y5 := C1.cell 5
       have y6 := C1.cell 6
       have y7 := C1.cell 7
       clear C1)
    | fail)
  go_returns
  exact ⟨pa, pb, own2, rfl, ⟨⟨G1.it.sn X2.it.2.2 (fun x => x), X1.it.1.sn X2.it.2.2 (fun _ _ _ x => x), X2.it.1, fun x hx => by simp at hx, fun x hx => by simp at hx⟩⟩⟩
end
set_option maxRecDepth 20000 in
set_option maxHeartbeats 4000000 in
theorem streamOwn_walk {A : Nat → Addr} (v : Value) (zs : List Int) (m : Int) (w : World) (hs : St9 A w) (hz : BytesArg w v zs) :
    Calls Tryd.prog 6 #[v, .int .i64 m] w fun e w' => e = .returned (.bool true) ∧ Below w.heap.size w w' := by
  obtain ⟨hr, _, hl⟩ := hz
  obtain ⟨a, c, hv⟩ := hr.shape
  subst hv
  have AW := Aside.mk (awake10 hs)
  have G0 := Aside.mk (Gs.start hs)
  have R0 := Aside.mk hr
  have hl' : (zs.length : Int) ≤ 140737488351232 := by omega
  have hr0 := Aside.mk (hr.1.len.2)
  rw [bv_length] at hr0
  clear hs hr
  obtain ⟨N0, hN0⟩ : ∃ n, Aside (zs.length = n) := ⟨_, ⟨rfl⟩⟩
  rw [hN0.it] at hl' hr0 ⊢
  go_enter Tryd.func6, Tryd.ntmps6
  go_upto_region 4 with (first | (go_at_call 7; refine AW.it.mono ?_; rintro e w1 ⟨rfl, K1⟩) | fail)
  have K2 : Aside (Keeps Nowhere w (w1.alloc (.cells #[.int .i64 1000, .int .i64 1000, .int .i64 1000, .int .i64 0, .int .i64 0, .int .i64 0, .int .i64 0, .int .i64 0] 23))) := ⟨K1.it.alloc _⟩
  have G2 := Aside.mk (G0.it.quiet K2.it)
  have OP := Aside.mk (owOpen G2.it)
  clear AW K1 G0 K2
  go_upto_if 36 with (first | (go_at_call 8; refine OP.it.mono ?_; rintro e w2 ⟨pa, pb, own2, rfl, O2⟩) | fail)
  have hcap := hr0.it
  go_cut [0] (fun v wx => ∃ (xs : List Int) (n : Nat), v = .slice a n c ∧ n ≤ 400 ∧ n ≤ c ∧ Aside (xs.length = n) ∧ Aside (Rd w (.slice a n c) xs) ∧ wx = w2)
  case first =>
    by_cases hb : 400 < N0
    · have hb' : (400 : Int) < (N0 : Int) := by omega
      have hc' : (400 : Int) ≤ (c : Int) := by omega
      go_wp2_with fail
      go_meet
      exact ⟨zs.take 400, 400, rfl, Nat.le_refl _, by omega, ⟨by rw [List.length_take, hN0.it]; omega⟩, ⟨R0.it.pre (by rw [hN0.it]; omega)⟩, rfl⟩
    · have hb' : ¬ (400 : Int) < (N0 : Int) := by omega
      go_wp2_with fail
      go_meet
      have := R0.it
      rw [hN0.it] at this
      exact ⟨zs, N0, rfl, by omega, by omega, hN0, ⟨this⟩, rfl⟩
  case rest =>
  obtain ⟨xs, n, rfl, hn, hnc, HX, R1, rfl⟩ := hcut
  clear hl hl' hcap hN0 R0
  have E3 := Ow.empty O2
  have R3 := Aside.mk (R1.it.later (E3.it.g.g.bel))
  clear O2
  have hn' : (n : Int) ≤ 400 := by omega
  go_upto_region 10 with (first
    | (have _u := F4; clear _u; at_builtin; refine wpList_appendO rfl (.tmp 41) (.tmp 42) rfl _ _ xs [1, 2, 3] (Ow.row F4).1 Rl.it (by rw [HX.it]; show n + 3 ≤ _; omega) rfl rfl ?_; intro q5 l5 c5 w5 o5 k5 b5)
    | (at_builtin; refine wpList_appendO rfl (.tmp 39) (.tmp 40) rfl _ _ [] xs (Ow.row E3).1 R3.it (by rw [HX.it]; show 0 + n ≤ _; omega) rfl rfl ?_; intro q4 l4 c4 w4 o4 k4 b4
       have E4 := Ow.app E3 o4 k4 b4
       have F4 := Ow.quiet E4 ((Keeps.refl _ _).alloc (.cells #[.int .u8 1, .int .u8 2, .int .u8 3] 5))
       have Rl := Aside.mk (rd_newA w4 [1, 2, 3] 3 rfl))
    | fail)
  have E5 := Ow.app F4 o5 k5 b5
  obtain ⟨g, hq5, hl5, hc5⟩ : ∃ g, q5 = some ⟨g, 0, none⟩ ∧ l5 = n + 3 ∧ n + 3 ≤ c5 := by
    rcases o5.it.2 with ⟨_, e⟩ | ⟨g, cap, cur, e, _, _, hc, _⟩
    · simp at e
    · injection e with e1 e2 e3
      have e4 : (xs ++ [1, 2, 3]).length = n + 3 := by rw [List.length_append, HX.it]; rfl
      rw [e4] at e2 hc
      exact ⟨g, e1, e2, by omega⟩
  subst hq5 hl5
  obtain ⟨T0, hT0⟩ : ∃ T, Aside (strOf (xs ++ [1, 2, 3]) = T) := ⟨_, ⟨rfl⟩⟩
  have cv5 := rd_conv10 (Ow.row E5).rd
  rw [hT0.it] at cv5
  have FX : Aside ((xs ++ [1, 2, 3]).take n = xs ∧ n ≤ (xs ++ [1, 2, 3]).length) := ⟨by rw [← HX.it]; simp⟩
  have hcg : (n : Int) ≤ (c5 : Int) := by omega
  have hcg2 : n + 3 ≤ c5 := hc5
  generalize give (give (give own2 wc.heap.size 11) (wc.alloc (.cells #[] 5)).heap.size 11) (w4.alloc (.cells #[.int .u8 1, .int .u8 2, .int .u8 3] 5)).heap.size 11 = own5 at E5
  clear E3 R3 E4 F4 Rl o4 k4 b4 o5 k5 b5 OP G2 hr0 hc5
  go_upto_region 15 with (first
    | (have _u := O8; clear _u; go_at_call 25; refine (owArrive O8 FX.it.1 FX.it.2).mono ?_; rintro e w9 ⟨v9, own9, rfl, O9⟩)
    | (have _u := O7; clear _u; go_at_call 25; refine (owArrive O7 FX.it.1 FX.it.2).mono ?_; rintro e w8 ⟨v8, own8, rfl, O8⟩)
    | (have _u := O6; clear _u; go_at_call 17; refine (owWrite O6 FX.it.1 FX.it.2 (by omega)).mono ?_; rintro e w7 ⟨v7, n7, own7, rfl, O7⟩)
    | (go_at_call 17; refine (owWrite E5 FX.it.1 FX.it.2 (by omega)).mono ?_; rintro e w6 ⟨v6, n6, own6, rfl, O6⟩)
    | fail)
  have cv9 := rd_conv10 (Ow.row O9).rd
  rw [hT0.it] at cv9
  obtain ⟨da, hda⟩ : ∃ d, (oa0.wrD xs).wrD xs = d := ⟨_, rfl⟩
  obtain ⟨db, hdb⟩ : ∃ d, (ob0.arD xs false).arD xs false = d := ⟨_, rfl⟩
  rw [hda, hdb] at O9
  obtain ⟨U, hU⟩ : ∃ U, U = xs ++ xs := ⟨_, rfl⟩
  have HU : Aside (U = xs ++ xs) := ⟨hU⟩
  have DA : Aside (da.staged = U ∧ da.closing = false ∧ da.off = false ∧ da.mine = true ∧ 0 < da.credit ∧ da.staged.length ≤ da.frK) := ⟨by
    rw [wr_at (d := oa0) rfl rfl xs (by rw [HX.it]; show 0 + n ≤ 1000; omega), wr_at (by rfl) (by rfl) xs (by rw [HX.it]; show ([] ++ xs).length + n ≤ 1000; rw [List.nil_append, HX.it]; omega)] at hda
    subst hda
    refine ⟨by rw [hU]; rfl, rfl, rfl, rfl, by show (0 : Int) < 1000; decide, ?_⟩
    show ([] ++ xs ++ xs).length ≤ min (min ([] ++ xs ++ xs).length 1000) 1000
    rw [List.nil_append, List.length_append, HX.it]
    omega⟩
  have DB : Aside (db.unread = U ∧ db.heard = false) := ⟨by
    rw [ar_at (d := ob0) rfl xs (by rw [HX.it]; show (n : Int) ≤ 1000; omega), ar_at (by rfl) xs (by rw [HX.it]; show (n : Int) ≤ 1000 - (n : Int); omega)] at hdb
    subst hdb
    exact ⟨by rw [hU]; rfl, rfl⟩⟩
  clear O6 O7 O8 E5 cv5 hda hdb hU
  have LM : Aside ((xs ++ [1, 2, 3]).length = n + 3) := ⟨by rw [List.length_append, HX.it]; rfl⟩
  obtain ⟨ms0, hms0⟩ : ∃ ms, xs ++ [1, 2, 3] = ms := ⟨_, rfl⟩
  rw [hms0] at O9 LM
  clear hms0 FX hT0
  go_wp2_with fail
  go_loopw [10] (fun x wr => ∃ (k : Nat) (ms : List Int), x = .int .i64 k ∧ k ≤ n ∧ Aside (ms.length = n + 3) ∧ Aside (Ow A w own9 wr pa pb da db [(11, .slice (some ⟨g, 0, none⟩) (n + 3) c5, ms)])) (fun x _ => n - (intOf x).toNat)
  case atStart => exact ⟨0, ms0, rfl, Nat.zero_le _, LM, O9⟩
  case round =>
    obtain ⟨k, ms, rfl, hk, LK, OK⟩ := hrel
    by_cases hkn : k < n
    · have hkn' : (k : Int) < (n : Int) := by omega
      have hk3 : (k : Int) < ((n + 3 : Nat) : Int) := by omega
      obtain ⟨g', c', hg, hcell⟩ := OwnB.at (B := 0) (Ow.row OK).1 (by rw [LK.it]; omega)
      injection hg with e1 e2 e3
      injection e1 with e1
      injection e1 with e1
      subst e1
      have cG := hcell k (by rw [LK.it]; omega)
      have fG := OwnB.frozen (B := 0) (Ow.row OK).1 k
      clear hcell e2 e3
      go_wp2_with fail
      exact ⟨⟨k + 1, ms.set k 200, by go_num, by omega, ⟨by rw [List.length_set]; exact LK.it⟩, Ow.set OK k (by rw [LK.it]; omega) 200⟩, by simp [intOf]; omega⟩
    · obtain rfl : k = n := by omega
      clear O9 LM cv9
      clear hk hkn
      go_upto_region 21 with fail
      go_cut [88] (fun v wx => ∃ b : Bool, v = .bool b ∧ wx = wr)
      case first =>
        go_wp2_with fail
        all_goals go_meet
        all_goals exact ⟨_, rfl, rfl⟩
      case rest =>
      obtain ⟨b, rfl, rfl⟩ := hcut
      go_upto_if 88 with fail
      go_cut [1] (fun v wx => ∃ m : Int, v = .int .i64 m ∧ wx = wc)
      case first =>
        cases b
        all_goals go_wp2_with fail
        all_goals go_meet
        all_goals exact ⟨_, rfl, rfl⟩
      case rest =>
      obtain ⟨m, rfl, rfl⟩ := hcut
      obtain ⟨D0, D1⟩ := DB.it
      have X1 := rd_at D1 m
      have X2 := rd_at X1.2 m
      obtain ⟨db2, hdb2⟩ : ∃ d, db.rdD m = d := ⟨_, rfl⟩
      rw [hdb2] at X1 X2
      obtain ⟨db3, hdb3⟩ : ∃ d, db2.rdD m = d := ⟨_, rfl⟩
      rw [hdb3] at X2
      have X1 := Aside.mk X1
      have X2 := Aside.mk X2
      have hdb2 := Aside.mk hdb2
      have hdb3 := Aside.mk hdb3
      clear D0 D1
      obtain ⟨da1, da2, da3, da4, da5, da6⟩ := DA.it
      have FC := Aside.mk (fun (own : Nat → Nat) (W : World) (L : List (Nat × Value × List Int)) (h : Aside (Ow A w own W pa pb da db3 L)) => owFrame 14 (by omega) h da2 da3 da4 da5 da6)
      clear da1 da2 da3 da4 da5 da6
      go_upto_region 26 with (first
        | (go_at_call 21; refine (FC.it _ _ _ P2).mono ?_; rintro e w12 ⟨q3, k3, own12, x3, x4, fb, rfl, HK3, P3⟩)
        | (have _u := P1; clear _u; go_at_call 24; refine (owRead 13 (by omega) m P1).mono ?_; rintro e w11 ⟨q2, k2, v11, own11, rfl, HK2, P2⟩; rw [hdb3.it] at P2)
        | (go_at_call 24; refine (owRead 12 (by omega) m OK).mono ?_; rintro e w10 ⟨q1, k1, v10, own10, rfl, HK1, P1⟩; rw [hdb2.it] at P1)
        | fail)
      obtain ⟨dz, P3⟩ := P3.it
      obtain ⟨W13, hW13⟩ : ∃ W, W = w12.alloc (.cells #[.int .u8 0, .int .u8 0, .int .u16 0, .int .u32 x3, .int .u32 x4, .slice q3 k3 k3] 65) := ⟨_, rfl⟩
      have P4 : Aside (Ow A w (give own12 w12.heap.size 20) W13 pa pb dz db3 [(14, .slice q3 k3 k3, da.staged), (13, .slice q2 k2 k2, db2.unread.take (db2.rdK m)), (12, .slice q1 k1 k1, db.unread.take (db.rdK m)), (11, .slice (some ⟨g, 0, none⟩) (k + 3) c5, ms)]) := by
        rw [hW13]
        exact ⟨P3.sn (I := fun _ => False) (Sn.quiet ((Keeps.refl _ _).alloc _) 20) (fun _ _ x => x) (fun _ _ x => x)⟩
      have C13 : Aside (CellsO (give own12 w12.heap.size 20) 20 W13 w12.heap.size 65 [.int .u8 0, .int .u8 0, .int .u16 0, .int .u32 x3, .int .u32 x4, .slice q3 k3 k3]) := by
        rw [hW13]
        exact ⟨Cells.new _ _ _, give_new (Nat.le_refl _)⟩
      have y5 : ∀ j, (W13.drewN j).cell? ⟨w12.heap.size, 5, none⟩ = some (.slice q3 k3 k3) := fun j => by
        rw [hW13]
        exact (Cells.new w12 65 [.int .u8 0, .int .u8 0, .int .u16 0, .int .u32 x3, .int .u32 x4, .slice q3 k3 k3]).cell 5
      have HU1 : Aside (U.length = k + k) := ⟨by rw [HU.it, List.length_append, HX.it]⟩
      have hb0 := DB.it.1
      have hx1 := X1.it.1
      have hx2 := X2.it.1
      rw [hb0] at hx1
      rw [hx1] at hx2
      obtain ⟨K1, hK1⟩ : ∃ K, db.rdK m = K := ⟨_, rfl⟩
      obtain ⟨K2, hK2⟩ : ∃ K, db2.rdK m = K := ⟨_, rfl⟩
      have b1 : K1 ≤ U.length := by rw [← hK1, ← hb0]; unfold Dm.rdK; omega
      have b2 : K2 ≤ U.length - K1 := by rw [← hK2]; unfold Dm.rdK; rw [hx1, hK1, List.length_drop]; omega
      have hk1 := HK1.it
      have hk2 := HK2.it
      have hk3 := HK3.it
      rw [hb0, hK1] at hk1
      rw [hx1, hK1, hK2] at hk2
      rw [DA.it.1] at hk3
      rw [hK1, hK2] at hx2
      rw [DA.it.1, hb0, hx1, hK1, hK2] at P4
      rw [List.length_take] at hk1 hk2
      rw [List.length_drop] at hk2
      obtain rfl : k1 = K1 := by omega
      obtain rfl : k2 = K2 := by omega
      have h12 : (U.take k1 ++ (U.drop k1).take k2) = U.take (k1 + k2) := by rw [List.take_add]
      have h12' : (U.drop k1).drop k2 = U.drop (k1 + k2) := by rw [List.drop_drop]
      rw [h12'] at hx2
      have hu1 := HU1.it
      have hle : k1 + k2 ≤ U.length := by omega
      obtain ⟨S1, hS1⟩ : ∃ S, Aside (strOf xs = S) := ⟨_, ⟨rfl⟩⟩
      obtain ⟨T, hT⟩ : ∃ S, Aside (strOf U = S) := ⟨_, ⟨rfl⟩⟩
      obtain ⟨A1, hA1⟩ : ∃ S, Aside (strOf (U.take k1) = S) := ⟨_, ⟨rfl⟩⟩
      obtain ⟨A2, hA2⟩ : ∃ S, Aside (strOf ((U.drop k1).take k2) = S) := ⟨_, ⟨rfl⟩⟩
      obtain ⟨T12, hT12⟩ : ∃ S, Aside (strOf (U.take (k1 + k2)) = S) := ⟨_, ⟨rfl⟩⟩
      obtain ⟨TR, hTR⟩ : ∃ S, Aside (strOf (U.drop (k1 + k2)) = S) := ⟨_, ⟨rfl⟩⟩
      have cvD : ∀ j, (convert 36 9 (.slice a k c)).run Tryd.prog (W13.drewN j) = .ok (.string S1) (W13.drewN j) := fun j => by
        rw [← hS1.it]
        exact rd_conv10 (R1.it.later (Ow.quiet P4 ((Keeps.refl _ _).drewN j)).it.g.g.bel)
      have cvF : ∀ j, (convert 36 9 (.slice q3 k3 k3)).run Tryd.prog (W13.drewN j) = .ok (.string T) (W13.drewN j) := fun j => by
        rw [← hT.it]
        exact rd_conv10 ((Ow.quiet P4 ((Keeps.refl _ _).drewN j)).it.r (14, .slice q3 k3 k3, U) (by simp)).rd
      have cv1 : ∀ j, (convert 36 9 (.slice q1 k1 k1)).run Tryd.prog (W13.drewN j) = .ok (.string A1) (W13.drewN j) := fun j => by
        rw [← hA1.it]
        exact rd_conv10 ((Ow.quiet P4 ((Keeps.refl _ _).drewN j)).it.r (12, .slice q1 k1 k1, U.take k1) (by simp)).rd
      have cv2 : ∀ j, (convert 36 9 (.slice q2 k2 k2)).run Tryd.prog (W13.drewN j) = .ok (.string A2) (W13.drewN j) := fun j => by
        rw [← hA2.it]
        exact rd_conv10 ((Ow.quiet P4 ((Keeps.refl _ _).drewN j)).it.r (13, .slice q2 k2 k2, (U.drop k1).take k2) (by simp)).rd
      have add0 : ∀ w', (Op.stringOp .add S1 S1).run Tryd.prog w' = .ok (.string T) w' := fun w' => by
        rw [run_string_add_sum w' S1 S1 (by rw [← hS1.it, strOf_size, HX.it]; omega), ← hS1.it, strOf_append, ← HU.it, hT.it]
      have add1 : ∀ w', (Op.stringOp .add A1 A2).run Tryd.prog w' = .ok (.string T12) w' := fun w' => by
        rw [run_string_add_sum w' A1 A2 (by rw [← hA1.it, ← hA2.it, strOf_size, strOf_size, List.length_take, List.length_take]; omega), ← hA1.it, ← hA2.it, strOf_append, h12, hT12.it]
      have sT : ∀ w', (Instr.slice 9 (.string T) none (some (.int .i64 ((k1 : Int) + (k2 : Int)))) none).run Tryd.prog w' = .ok (.string T12) w' := fun w' => by
        have := str_take U (k1 + k2) hle w'
        rw [hT.it, hT12.it] at this
        exact this
      have sR : ∀ w', (Instr.slice 9 (.string T) (some (.int .i64 ((k1 : Int) + (k2 : Int)))) none none).run Tryd.prog w' = .ok (.string TR) w' := fun w' => by
        have := str_drop U (k1 + k2) hle w'
        rw [hT.it, hTR.it] at this
        exact this
      have hTs : (T.size : Int) = (k : Int) + (k : Int) := by rw [← hT.it, strOf_size, hu1]; omega
      obtain ⟨tz, htz⟩ : ∃ z : Nat, Aside (T.size = z) := ⟨_, ⟨rfl⟩⟩
      have hle2 : ¬ ((tz : Int) < (k1 : Int) + (k2 : Int)) := by have := htz.it; omega
      have hkk1 : (k1 : Int) ≤ 800 := by omega
      have hkk2 : (k2 : Int) ≤ 800 := by omega
      have NN : Aside (k1 + k2 ≤ U.length ∧ U.length = k + k ∧ k ≤ 400 ∧ db3.unread = U.drop (k1 + k2) ∧ k1 ≤ U.length ∧ k2 ≤ U.length) := ⟨⟨hle, hu1, hn, hx2, b1, by omega⟩⟩
      have hszT : T.size = tz := htz.it
      rw [← hW13]
      have y50 : W13.cell? ⟨w12.heap.size, 5, none⟩ = some (.slice q3 k3 k3) := y5 0
      have cvD0 : (convert 36 9 (.slice a k c)).run Tryd.prog W13 = .ok (.string S1) W13 := cvD 0
      clear b1 b2 hk1 hk2 hk3 hb0 hx1 hx2 hK1 hK2 h12 h12' hu1 hle hW13 P3 X1 X2 HK1 HK2 HK3 hTs DA DB FC P1 P2 OK hdb2 hdb3
      go_upto_region 27 with fail
      go_quiet (fail)
      go_upto_region 30 with fail
      have AP0 := owApart (k := k) (Ow.quiet P4 ((Keeps.refl Nowhere W13).drewN (nq + 1))) (by rw [LK.it]; omega) (by have := NN.it; rw [List.length_take]; omega) (by have := NN.it; rw [List.length_take]; omega) (by have := NN.it; omega) (by omega)
      have AP1 : Aside (Calls Tryd.prog 27 #[.slice (some ⟨W13.heap.size, 0, none⟩) 4 4] ((W13.drewN nq).alloc (.cells #[.slice q1 k1 k1, .slice q2 k2 k2, .slice q3 k3 k3, .slice (some ⟨g, 0, none⟩) k c5] 36)).drew fun e w' => ∃ own', e = .returned (.bool true) ∧ Aside (Ow A w own' w' pa pb dz db3 []) ∧ Aside (w'.cell? ⟨w12.heap.size, 5, none⟩ = some (.slice q3 k3 k3))) := ⟨AP0.mono (by rintro e w' ⟨own', rfl, h1, h2⟩; exact ⟨own', rfl, h1, ⟨((C13.it.quiet ((Keeps.refl Nowhere W13).drewN (nq + 1))).sn h2.it (by omega)).1.cell 5⟩⟩)⟩
      clear AP0 y50 cvD0 cvD cvF cv1 cv2 add0 add1 sT P4
      have y5a : (W13.drewN nq).drew.cell? ⟨w12.heap.size, 5, none⟩ = some (.slice q3 k3 k3) := y5 (nq + 1)
      have y5b : (W13.drewN (nq + 1)).cell? ⟨w12.heap.size, 5, none⟩ = some (.slice q3 k3 k3) := y5 (nq + 1)
      have y5c : ((W13.drewN nq).alloc (.cells #[.slice q1 k1 k1, .slice q2 k2 k2, .slice q3 k3 k3, .slice (some ⟨g, 0, none⟩) k c5] 36)).drew.cell? ⟨w12.heap.size, 5, none⟩ = some (.slice q3 k3 k3) :=
        (C13.it.quiet (((Keeps.refl Nowhere W13).drewN (nq + 1)).alloc (.cells #[.slice q1 k1 k1, .slice q2 k2 k2, .slice q3 k3 k3, .slice (some ⟨g, 0, none⟩) k c5] 36))).1.cell 5
      go_region_held_law (fun w' => w'.cell? ⟨w12.heap.size, 5, none⟩ = some (.slice q3 k3 k3)) (first | exact y5a | exact y5b | exact y5c | exact y14.it)
        (first | (go_at_call 27; refine AP1.it.mono ?_; rintro e w14 ⟨own14, rfl, P6, y14⟩) | fail)
      have RD := Aside.mk (owRead 12 (by omega) 2000 P6)
      go_upto_region 33 with (first | (go_at_call 24; refine RD.it.mono ?_; rintro e w15 ⟨q7, k7, v7, own15, rfl, HK7, P7⟩) | fail)
      have hu : db3.unread.take (db3.rdK 2000) = U.drop (k1 + k2) := by
        have h := NN.it
        rw [h.2.2.2.1]
        refine List.take_of_length_le ?_
        unfold Dm.rdK
        rw [h.2.2.2.1, List.length_drop]
        have : (2000 : Int).toNat = 2000 := rfl
        omega
      rw [hu] at P7
      have cvR : ∀ j, (convert 36 9 (.slice q7 k7 k7)).run Tryd.prog (w15.drewN j) = .ok (.string TR) (w15.drewN j) := fun j => by
        rw [← hTR.it]
        exact rd_conv10 (Ow.row (Ow.quiet P7 ((Keeps.refl _ _).drewN j))).rd
      have B7 := Aside.mk P7.it.g.g.bel
      clear P6 P7 RD hu AP1 y5
      go_quiet (fail)
      go_wp2_with fail
      go_ret
      exact ⟨rfl, below_drewN B7.it _⟩
end Go.Proofs.YteghehhifebhcaaDoor
