import Derived.Test.YtjhjhmhhnifgmaaDoorFeedSay
import Derived.Deep.RegionHeld3
import Derived.Test.YtjhjhmhhnifgmaaDoorFeedV
import Derived.Test.YtjhjhmhhnifgmaaDoorFeedY
/-
  culvertref05's Held, Wants, Feed: over what the document says of the bytes
-/
namespace Go.Proofs.YtjhjhmhhnifgmaaDoor
open Go.RowKit

section
variable {w : World} {most : Int} {F : List Int}
set_option maxHeartbeats 2000000 in
theorem refHeld (q : Option Addr) (L c : Nat) (R : Rd w (.slice q L c) F) (hb : AreBytes F) (hL : F.length ≤ 16777216) :
    Calls Tryd.prog 11 #[.agg #[.int .i64 most, .slice q L c]] w fun e w' => e = .returned (.int .i64 (restS (prs most F).rest (prs most F).dead)) ∧ Aside (Below w.heap.size w w') := by
  obtain ⟨W0, hW0⟩ : ∃ W0, W0 = w.alloc (.cells #[.int .i64 most, .slice q L c] 31) := ⟨_, rfl⟩
  have k0 : Keeps Nowhere w W0 := by rw [hW0]; exact (Keeps.refl _ _).alloc _
  have C0 : Cells W0 w.heap.size 31 [.int .i64 most, .slice q L c] := by rw [hW0]; exact Cells.new w _ _
  have d0 : W0.cell? ⟨w.heap.size, 0, none⟩ = some (.int .i64 most) := by rw [C0.cell]; rfl
  have d1 : W0.cell? ⟨w.heap.size, 1, none⟩ = some (.slice q L c) := by rw [C0.cell]; rfl
  have SY := Aside.mk (say_any (w := W0) (most := most) q L c F (R.later k0.bel) hb hL)
  have K0 := Aside.mk k0
  clear R hb hL C0 k0
  cases hd : (prs most F).dead with
  | none =>
    rw [hd] at SY
    simp only [restS, codeS, strmS] at SY ⊢
    generalize (prs most F).rest.length = n at SY ⊢
    clear hd
    go_enter Tryd.func11, Tryd.ntmps11
    go_upto_region 1 with fail
    rw [← hW0]
    clear hW0
    go_wp2_with (first | (go_at_call 16; refine SY.it.mono ?_; clear SY; rintro e w1 ⟨fq, fl, fc, rfl, FR, B1⟩) | fail)
    go_ret
    exact ⟨rfl, ⟨K0.it.bel.trans ((B1.it.trans (alloc_below w1 _ |>.mono B1.it.size)).mono K0.it.size)⟩⟩
  | some h =>
    have hk := chkH_le most h
    rw [hd] at SY
    simp only [restS, codeS, strmS] at SY ⊢
    obtain ⟨kk, hkk⟩ : ∃ kk, 1000 + chkH most h = kk := ⟨_, rfl⟩
    rw [hkk] at SY
    generalize dS h = ss at SY
    have k1 : (kk != 0) = true := by simp; omega
    clear hd hk hkk
    go_enter Tryd.func11, Tryd.ntmps11
    go_upto_region 1 with fail
    rw [← hW0]
    clear hW0
    go_wp2_with (first | (go_at_call 16; refine SY.it.mono ?_; clear SY; rintro e w1 ⟨fq, fl, fc, rfl, FR, B1⟩) | fail)
    go_ret
    exact ⟨rfl, ⟨K0.it.bel.trans ((B1.it.trans (alloc_below w1 _ |>.mono B1.it.size)).mono K0.it.size)⟩⟩
theorem getD12 (h : List Int) (i : Nat) (hi : i < 12) : (h.take 12).getD i 0 = h.getD i 0 := by simp [List.getD, hi]
theorem dL_take12 (h : List Int) (hh : 12 ≤ h.length) : dL h = dL (h.take 12) := by
  rw [dL_eq h hh, dL_eq _ (by rw [List.length_take]; omega)]
  simp only [getD12 h 8 (by decide), getD12 h 9 (by decide), getD12 h 10 (by decide), getD12 h 11 (by decide)]
theorem live_wants {most : Int} {hs : List Int} (hl : Live (ckH most) szN hs) (h12 : 12 ≤ hs.length) : (wantsP szN hs : Int) = dL hs - ((hs.length : Int) - 12) := by
  rcases hl with h | ⟨_, _, h3⟩
  · omega
  · have hd := dL_take12 hs h12
    have hp : 0 < szN (hs.take 12) := by omega
    unfold szN szH at hp h3
    have ht : dT (hs.take 12) = 0 := by
      apply Classical.byContradiction
      intro hn
      rw [if_neg hn] at hp
      simp at hp
    rw [if_pos ht] at hp h3
    unfold wantsP
    rw [if_neg (by omega)]
    unfold szN szH
    rw [if_pos ht, ← hd]
    rw [← hd] at hp h3
    omega
set_option maxHeartbeats 2000000 in
theorem refWants (q : Option Addr) (L c : Nat) (R : Rd w (.slice q L c) F) (hb : AreBytes F) (hL : F.length ≤ 16777216) (hm : most ≠ 0) :
    Calls Tryd.prog 13 #[.agg #[.int .i64 most, .slice q L c]] w fun e w' => e = .returned (.int .i64 (wantsS (prs most F).rest (prs most F).dead)) ∧ Aside (Below w.heap.size w w') := by
  obtain ⟨W0, hW0⟩ : ∃ W0, W0 = w.alloc (.cells #[.int .i64 most, .slice q L c] 31) := ⟨_, rfl⟩
  have k0 : Keeps Nowhere w W0 := by rw [hW0]; exact (Keeps.refl _ _).alloc _
  have C0 : Cells W0 w.heap.size 31 [.int .i64 most, .slice q L c] := by rw [hW0]; exact Cells.new w _ _
  have d0 : W0.cell? ⟨w.heap.size, 0, none⟩ = some (.int .i64 most) := by rw [C0.cell]; rfl
  have d1 : W0.cell? ⟨w.heap.size, 1, none⟩ = some (.slice q L c) := by rw [C0.cell]; rfl
  have SY := Aside.mk (say_any (w := W0) (most := most) q L c F (R.later k0.bel) hb hL)
  have K0 := Aside.mk k0
  have CC := Aside.mk C0
  have RR := Aside.mk (And.intro R hb)
  have hLF : L = F.length := by
    obtain ⟨x, y, e⟩ := R.shape
    injection e
  have hLc : L ≤ c := by
    have := R.1.len
    rw [bv_length] at this
    omega
  have hm0 : (most == 0) = false := by simpa using hm
  have HLF := Aside.mk hLF
  clear R hb C0 k0 hm hLF
  cases hd : (prs most F).dead with
  | some h =>
    have hk := chkH_le most h
    rw [hd] at SY
    simp only [restS, codeS, strmS, wantsS] at SY ⊢
    obtain ⟨kk, hkk⟩ : ∃ kk, 1000 + chkH most h = kk := ⟨_, rfl⟩
    rw [hkk] at SY
    generalize dS h = ss at SY
    have k1 : (kk != 0) = true := by simp; omega
    clear hd hk hkk
    go_enter Tryd.func13, Tryd.ntmps13
    go_upto_region 1 with fail
    rw [← hW0]
    clear hW0
    go_wp2_with (first | (go_at_call 16; refine SY.it.mono ?_; clear SY; rintro e w1 ⟨fq, fl, fc, rfl, FR, B1⟩) | fail)
    go_ret
    exact ⟨rfl, ⟨K0.it.bel.trans ((B1.it.trans (alloc_below w1 _ |>.mono B1.it.size)).mono K0.it.size)⟩⟩
  | none =>
    obtain ⟨hlv, hfl⟩ := parse_rest (ck := ckH most) (sz := szN) F hd
    rw [hd] at SY
    simp only [restS, codeS, strmS, wantsS] at SY ⊢
    obtain ⟨rs, hrs⟩ : ∃ rs, (prs most F).rest = rs := ⟨_, rfl⟩
    have hlv' : Live (ckH most) szN rs := hrs ▸ hlv
    have hfl' : F = flat (prs most F).fs ++ rs := hrs ▸ hfl
    rw [hrs] at SY ⊢
    clear hlv hfl hrs hd
    obtain ⟨n, hn⟩ : ∃ n, rs.length = n := ⟨_, rfl⟩
    rw [hn] at SY
    have hnL : n ≤ L := by rw [HLF.it, hfl', List.length_append]; omega
    by_cases h12 : n < 12
    · have e1 : wantsP szN rs = 12 - n := by unfold wantsP; rw [hn, if_pos h12]
      obtain ⟨x, hx⟩ : ∃ x, 12 - n = x := ⟨_, rfl⟩
      have EX : Aside ((wantsP szN rs : Int) = 12 - (n : Int)) := ⟨by rw [e1]; omega⟩
      have b1 : (n : Int) < 12 := by omega
      clear hlv' hfl' hn e1 hx
      go_enter Tryd.func13, Tryd.ntmps13
      go_upto_region 1 with fail
      rw [← hW0]
      clear hW0
      go_upto_region 2 with (first | (go_at_call 16; refine SY.it.mono ?_; clear SY; rintro e w1 ⟨fq, fl, fc, rfl, FR, B1⟩) | fail)
      have D1 := (CC.it.later (S := Nowhere) (Keeps.ofBelow B1.it) (fun x => x)).later ((Keeps.refl Nowhere w1).alloc (.cells #[.slice fq fl fc, .int .i64 n, .int .i64 0, .int .u32 0] 57)) (fun x => x)
      have a0 := D1.cell 0
      have a1 := D1.cell 1
      have T1 := Cells.new w1 57 [.slice fq fl fc, .int .i64 n, .int .i64 0, .int .u32 0]
      have t1 := T1.cell 1
      have t2 := T1.cell 2
      simp only [List.getElem?_cons_zero, List.getElem?_cons_succ] at a0 a1 t1 t2
      have BB := Aside.mk (K0.it.bel.trans ((B1.it.trans ((alloc_below w1 (.cells #[.slice fq fl fc, .int .i64 n, .int .i64 0, .int .u32 0] 57)).mono B1.it.size)).mono K0.it.size))
      clear D1 T1 d0 d1
      generalize w1.alloc (.cells #[.slice fq fl fc, .int .i64 n, .int .i64 0, .int .u32 0] 57) = w2 at a0 a1 t1 t2 BB ⊢
      generalize w1.heap.size = tb at t1 t2 ⊢
      go_wp2_with fail
      go_ret
      rw [EX.it]
      exact ⟨rfl, BB⟩
    · obtain ⟨sb, so, rfl⟩ : ∃ sb so, q = some ⟨sb, so, none⟩ := by
        obtain ⟨sb, so, c', e, _⟩ := RR.it.1.at (by have := HLF.it; omega)
        injection e with e
        exact ⟨sb, so, e⟩
      obtain ⟨a, ha⟩ : ∃ a, L - n = a := ⟨_, rfl⟩
      have hw1 : IntKind.i64.wrap ((L : Int) - (n : Int)) = (a : Int) := by rw [IntKind.wrap_i64]; have := HLF.it; omega
      have hdr : F.drop a = rs := by
        rw [hfl']
        rw [List.drop_append_of_le_length (by have := congrArg List.length hfl'; rw [List.length_append] at this; have := HLF.it; omega)]
        rw [List.drop_eq_nil_of_le (by have := congrArg List.length hfl'; rw [List.length_append] at this; have := HLF.it; omega), List.nil_append]
      have bb : AreBytes rs := fun x hx => RR.it.2 x (by rw [hfl']; exact List.mem_append_right _ hx)
      have RS : Aside (∀ W, Below w.heap.size w W → Rd W (.slice (some ⟨sb, so + a, none⟩) n (c - a)) rs) := ⟨fun W hB => by
        have r0 : RdS Nowhere W (.slice (some ⟨sb, so, none⟩) L c) F := RR.it.1.later hB
        have r1 := r0.seg (a := a) (n := n) (by have := HLF.it; omega)
        rw [if_neg (by omega), hdr, ← hn, List.take_length, hn] at r1
        have e : (some (⟨sb, so, none⟩ : Addr)).map (·.add a) = some ⟨sb, so + a, none⟩ := by rw [Option.map_some, add_none]
        rw [e] at r1
        exact r1⟩
      have DEC := Aside.mk (fun W (hB : Below w.heap.size w W) => refDecode_any _ rs W (RS.it W hB) bb)
      have hdl := dL_bounds bb
      rw [show dE rs = 0 from if_neg (by rw [hn]; omega)] at DEC
      unfold dHdr at DEC
      have EX : Aside ((wantsP szN rs : Int) = dL rs - ((n : Int) - 12)) := ⟨by rw [live_wants hlv' (by omega), hn]⟩
      obtain ⟨lw, hlw⟩ : ∃ lw, dL rs = lw := ⟨_, rfl⟩
      rw [hlw] at DEC EX hdl
      generalize dV rs = vv at DEC
      generalize dT rs = tt at DEC
      generalize dF rs = ff at DEC
      generalize dS rs = ss at DEC
      have b1 : ¬ (n : Int) < 12 := by omega
      have hw2 : IntKind.i64.wrap ((n : Int) - 12) = (n : Int) - 12 := by rw [IntKind.wrap_i64]; have := HLF.it; omega
      have hw3 : IntKind.i64.wrap (lw - ((n : Int) - 12)) = lw - ((n : Int) - 12) := by rw [IntKind.wrap_i64]; have := HLF.it; omega
      have hw4 : IntKind.i64.wrap lw = lw := by rw [IntKind.wrap_i64]; omega
      have s1 : (0 : Int) ≤ (a : Int) := by omega
      have s2 : (a : Int) ≤ (L : Int) := by omega
      have s3 : (L : Int) ≤ (c : Int) := by omega
      have s4 : L - a = n := by omega
      have s5 : ¬ c = a := by omega
      clear hlv' hfl' hn ha hdr bb hlw
      go_enter Tryd.func13, Tryd.ntmps13
      go_upto_region 1 with fail
      rw [← hW0]
      clear hW0
      go_upto_region 2 with (first | (go_at_call 16; refine SY.it.mono ?_; clear SY; rintro e w1 ⟨fq, fl, fc, rfl, FR, B1⟩) | fail)
      have D1 := (CC.it.later (S := Nowhere) (Keeps.ofBelow B1.it) (fun x => x)).later ((Keeps.refl Nowhere w1).alloc (.cells #[.slice fq fl fc, .int .i64 n, .int .i64 0, .int .u32 0] 57)) (fun x => x)
      have a0 := D1.cell 0
      have a1 := D1.cell 1
      have T1 := Cells.new w1 57 [.slice fq fl fc, .int .i64 n, .int .i64 0, .int .u32 0]
      have t1 := T1.cell 1
      have t2 := T1.cell 2
      simp only [List.getElem?_cons_zero, List.getElem?_cons_succ] at a0 a1 t1 t2
      have BB := Aside.mk (K0.it.bel.trans ((B1.it.trans ((alloc_below w1 (.cells #[.slice fq fl fc, .int .i64 n, .int .i64 0, .int .u32 0] 57)).mono B1.it.size)).mono K0.it.size))
      clear d0 d1
      have DT := Aside.mk T1
      clear D1 T1
      generalize w1.alloc (.cells #[.slice fq fl fc, .int .i64 n, .int .i64 0, .int .u32 0] 57) = w2 at a0 a1 t1 t2 BB DT ⊢
      generalize w1.heap.size = tb at t1 t2 DT ⊢
      go_upto_region 7 with (first | (go_at_call 22; refine (DEC.it w2 BB.it).mono ?_; rintro e w3 ⟨rfl, B3⟩) | fail)
      have B3 := Aside.mk B3
      have T3 := ((DT.it.later (S := Nowhere) (Keeps.ofBelow B3.it) (fun x => x)).later ((Keeps.refl Nowhere w3).alloc (.cells #[.int .u8 vv, .int .u8 tt, .int .u16 ff, .int .u32 ss, .int .u32 lw] 44)) (fun x => x)).cell 1
      simp only [List.getElem?_cons_zero, List.getElem?_cons_succ] at T3
      clear a0 a1 t1 t2
      go_wp2_with fail
      go_ret
      rw [EX.it]
      exact ⟨rfl, ⟨BB.it.trans ((B3.it.trans ((alloc_below w3 _).mono B3.it.size)).mono BB.it.size)⟩⟩
end
end Go.Proofs.YtjhjhmhhnifgmaaDoor

/-
  culvertref05.Feed
-/
namespace Go.Proofs.YtjhjhmhhnifgmaaDoor
open Go.RowKit

section
variable {w : World} {most : Int} {F : List Int}
/-- d in its box, the result's box -/
structure Fd (w : World) (most : Int) (v : Value) (W : World) : Prop where
  bel : Below w.heap.size w W
  d : Cells W w.heap.size 31 [.int .i64 most, v]
  r : Cells W (w.heap.size + 1) 31 [.int .i64 0, .slice none 0 0]
theorem Fd.start (most : Int) (v : Value) : Fd w most v ((w.alloc (.cells #[.int .i64 most, v] 31)).alloc (.cells #[.int .i64 0, .slice none 0 0] 31)) := by
  refine ⟨(((Keeps.refl Nowhere w).alloc _).alloc _).bel, (Cells.new w 31 [.int .i64 most, v]).later (S := Nowhere) ((Keeps.refl _ _).alloc _) (fun x => x), ?_⟩
  have := Cells.new (w.alloc (.cells #[.int .i64 most, v] 31)) 31 [.int .i64 0, .slice none 0 0]
  rw [World.size_alloc] at this
  exact this
theorem Fd.later {v : Value} {W w' : World} (h : Fd w most v W) (hb : Below W.heap.size W w') : Fd w most v w' :=
  ⟨h.bel.trans (hb.mono h.bel.size), h.d.later (S := Nowhere) (Keeps.ofBelow hb) (fun x => x), h.r.later (S := Nowhere) (Keeps.ofBelow hb) (fun x => x)⟩
theorem Fd.cells {v : Value} {W : World} (h : Fd w most v W) : W.cell? ⟨w.heap.size, 0, none⟩ = some (.int .i64 most) ∧ W.cell? ⟨w.heap.size, 1, none⟩ = some v ∧ W.cell? ⟨w.heap.size + 1, 0, none⟩ = some (.int .i64 0) ∧ W.cell? ⟨w.heap.size + 1, 1, none⟩ = some (.slice none 0 0) ∧ W.frozen? ⟨w.heap.size + 1, 0, none⟩ = false ∧ W.frozen? ⟨w.heap.size + 1, 1, none⟩ = false ∧ W.frozen? ⟨w.heap.size, 1, none⟩ = false :=
  ⟨by rw [h.d.cell]; rfl, by rw [h.d.cell]; rfl, by rw [h.r.cell]; rfl, by rw [h.r.cell]; rfl, h.r.frozen 0, h.r.frozen 1, h.d.frozen 1⟩
/-- the result is stored -/
theorem Fd.done {v : Value} {W : World} (h : Fd w most v W) : Cells ((W.setCell ⟨w.heap.size + 1, 0, none⟩ (.int .i64 most)).setCell ⟨w.heap.size + 1, 1, none⟩ v) (w.heap.size + 1) 31 [.int .i64 most, v] ∧ Keeps (fun k => k = w.heap.size + 1) W ((W.setCell ⟨w.heap.size + 1, 0, none⟩ (.int .i64 most)).setCell ⟨w.heap.size + 1, 1, none⟩ v) ∧ Below w.heap.size w ((W.setCell ⟨w.heap.size + 1, 0, none⟩ (.int .i64 most)).setCell ⟨w.heap.size + 1, 1, none⟩ v) := by
  have k : Keeps (fun k => k = w.heap.size + 1) W ((W.setCell ⟨w.heap.size + 1, 0, none⟩ (.int .i64 most)).setCell ⟨w.heap.size + 1, 1, none⟩ v) := ((Keeps.refl (fun k => k = w.heap.size + 1) W).setCell ⟨w.heap.size + 1, 0, none⟩ _ (fun _ => rfl)).setCell ⟨w.heap.size + 1, 1, none⟩ _ (fun _ => rfl)
  exact ⟨(h.r.setCell 0 _).setCell 1 _, k, ((Keeps.ofBelow (S := Nowhere) h.bel).next k (fun k e hlt => by omega)).bel⟩
set_option maxHeartbeats 2000000 in
theorem refFeed_nil (q : Option Addr) (L c : Nat) (bv' : Value) :
    Calls Tryd.prog 7 #[.agg #[.int .i64 0, .slice q L c], bv'] w fun e w' => e = .returned (.tuple #[.agg #[.int .i64 0, .slice q L c], .slice none 0 0, .int .i64 1]) ∧ Aside (Below w.heap.size w w') := by
  obtain ⟨W0, hW0⟩ : ∃ W0, W0 = (w.alloc (.cells #[.int .i64 0, .slice q L c] 31)).alloc (.cells #[.int .i64 0, .slice none 0 0] 31) := ⟨_, rfl⟩
  have P := Fd.start (w := w) 0 (.slice q L c)
  rw [← hW0] at P
  obtain ⟨d0, d1, e0, e1, f0, f1, _⟩ := P.cells
  obtain ⟨D1, _, D3⟩ := P.done
  have y0 := D1.cell 0
  have y1 := D1.cell 1
  simp only [List.getElem?_cons_zero, List.getElem?_cons_succ] at y0 y1
  have D3 := Aside.mk D3
  clear P D1
  go_enter Tryd.func7, Tryd.ntmps7
  go_upto_region 1 with fail
  rw [← hW0]
  clear hW0
  go_wp2
  generalize ((W0.setCell ⟨w.heap.size + 1, 0, none⟩ (.int .i64 0)).setCell ⟨w.heap.size + 1, 1, none⟩ (.slice q L c)) = W1 at y0 y1 D3 ⊢
  refine bodyPost_ret (v := .tuple #[.agg #[.int .i64 0, .slice q L c], .slice none 0 0, .int .i64 1]) (by simp [results, Tryd.results7, go_sem, y0, y1]) rfl ?_
  exact ⟨rfl, D3⟩
set_option maxHeartbeats 4000000 in
theorem refFeed_dead (q : Option Addr) (L c : Nat) (R : Rd w (.slice q L c) F) (hb : AreBytes F) (hL : F.length ≤ 16777216) (hm : most ≠ 0) (h : List Int) (hd : (prs most F).dead = some h) (bv' : Value) :
    Calls Tryd.prog 7 #[.agg #[.int .i64 most, .slice q L c], bv'] w fun e w' => e = .returned (.tuple #[.agg #[.int .i64 most, .slice q L c], .slice none 0 0, .int .i64 (1000 + chkH most h)]) ∧ Aside (Below w.heap.size w w') := by
  obtain ⟨W0, hW0⟩ : ∃ W0, W0 = (w.alloc (.cells #[.int .i64 most, .slice q L c] 31)).alloc (.cells #[.int .i64 0, .slice none 0 0] 31) := ⟨_, rfl⟩
  have P := Fd.start (w := w) most (.slice q L c)
  rw [← hW0] at P
  have P := Aside.mk P
  obtain ⟨d0, d1, _⟩ := P.it.cells
  have SY := Aside.mk (say_any (w := W0) (most := most) q L c F (R.later P.it.bel) hb hL)
  have hk := chkH_le most h
  rw [hd] at SY
  simp only [restS, codeS, strmS] at SY
  obtain ⟨kk, hkk⟩ : ∃ kk, 1000 + chkH most h = kk := ⟨_, rfl⟩
  rw [hkk] at SY ⊢
  generalize dS h = ss at SY
  have k1 : (kk != 0) = true := by simp; omega
  have hm0 : (most == 0) = false := by simpa using hm
  have hsz : W0.heap.size = w.heap.size + 2 := by rw [hW0, World.size_alloc, World.size_alloc]
  have HSZ := Aside.mk hsz
  clear R hb hL hd hk hkk hm hsz
  go_enter Tryd.func7, Tryd.ntmps7
  go_upto_region 1 with fail
  rw [← hW0]
  clear hW0
  go_upto_region 4 with (first | (go_at_call 16; refine SY.it.mono ?_; clear SY; rintro e w1 ⟨fq, fl, fc, rfl, FR, B1⟩) | fail)
  have P2 := Aside.mk ((P.it.later B1.it).later (alloc_below w1 (.cells #[.slice fq fl fc, .int .i64 ((0 : Nat) : Int), .int .i64 kk, .int .u32 ss] 57)))
  have T1 := Cells.new w1 57 [.slice fq fl fc, .int .i64 ((0 : Nat) : Int), .int .i64 kk, .int .u32 ss]
  have t2 := T1.cell 2
  simp only [List.getElem?_cons_zero, List.getElem?_cons_succ] at t2
  have htb : Aside (w.heap.size + 2 ≤ w1.heap.size) := ⟨by have := B1.it.size; have := HSZ.it; omega⟩
  clear d0 d1 P T1
  generalize w1.alloc (.cells #[.slice fq fl fc, .int .i64 ((0 : Nat) : Int), .int .i64 kk, .int .u32 ss] 57) = w2 at t2 P2 ⊢
  generalize w1.heap.size = tb at t2 htb ⊢
  obtain ⟨d0, d1, e0, e1, f0, f1, _⟩ := P2.it.cells
  obtain ⟨D1, _, D3⟩ := P2.it.done
  have y0 := D1.drew.cell 0
  have y1 := D1.drew.cell 1
  simp only [List.getElem?_cons_zero, List.getElem?_cons_succ] at y0 y1
  have D3 := Aside.mk (Keeps.drew (Keeps.ofBelow (S := Nowhere) D3)).bel
  have n1 : w.heap.size ≠ w.heap.size + 1 := by omega
  have n2 : tb ≠ w.heap.size + 1 := by have := htb.it; omega
  have n3 := n1.symm
  have n4 := n2.symm
  clear D1
  go_upto_region 5 with fail
  go_region_held3 (fun w' => w'.cell? ⟨w.heap.size, 0, none⟩ = some (.int .i64 most) ∧ w'.cell? ⟨w.heap.size, 1, none⟩ = some (.slice q L c) ∧ w'.cell? ⟨tb, 2, none⟩ = some (.int .i64 kk)) (first | go_keep) (fail)
  generalize ((w2.setCell ⟨w.heap.size + 1, 0, none⟩ (.int .i64 most)).setCell ⟨w.heap.size + 1, 1, none⟩ (.slice q L c)).drew = W1 at y0 y1 D3 ⊢
  go_wp2
  refine bodyPost_ret (v := .tuple #[.agg #[.int .i64 most, .slice q L c], .slice none 0 0, .int .i64 kk]) (by simp [results, Tryd.results7, go_sem, y0, y1]) rfl ?_
  exact ⟨rfl, D3⟩
theorem framesN_drop {base k l c : Nat} {a : Option Addr} {fs : List (List Int × List Int)} (h : FramesN base w (.slice a l c) fs) (hk : k ≤ l) : FramesN base w (.slice (if c = k then a else a.map (fun x => x.add (k * 6))) (l - k) (c - k)) (fs.drop k) := by
  obtain ⟨xs, rfl, ⟨hl, a', c', e, h1, h2, h3, hc⟩, hg, hx⟩ := h
  injection e with e1 e2 e3
  subst e1 e3
  refine ⟨xs.drop k, by rw [List.map_drop], ⟨by rw [fcells_length], _, c - k, by rw [List.length_drop, ← e2], by rw [List.length_drop]; omega, by omega, fun hz => ?_, fun j u hj => ?_⟩, fun g o l' c' e' => ?_, fun x hm => hx x (List.mem_of_mem_drop hm)⟩
  · split at hz
    · omega
    · have := h3 (Option.map_eq_none_iff.1 hz); omega
  · have e : fcells xs = fcells (xs.take k) ++ fcells (xs.drop k) := by rw [← fcells_append, List.take_append_drop]
    have hlen : (fcells (xs.take k)).length = k * 6 := by rw [fcells_length, List.length_take, Nat.min_eq_left (by omega)]
    have hj' : (fcells xs)[k * 6 + j]? = some u := by rw [e, List.getElem?_append_right (by omega), hlen, Nat.add_sub_cancel_left]; exact hj
    obtain ⟨g, o, rfl, hce⟩ := hc (k * 6 + j) u hj'
    have hlt := (List.getElem?_eq_some_iff.1 hj).1
    rw [fcells_length, List.length_drop] at hlt
    have hck : ¬ c = k := by
      intro hck
      have : xs.length - k = 0 := by omega
      rw [this] at hlt
      omega
    refine ⟨g, o + k * 6, by rw [if_neg hck, Option.map_some, add_none], ?_⟩
    rw [← hce]
    congr 2
    omega
  · injection e' with e'
    split at e'
    · subst e'
      exact hg g o _ _ rfl
    · cases a with
      | none => cases e'
      | some ad =>
        obtain ⟨b, o2, sp⟩ := ad
        cases sp with
        | none =>
          rw [Option.map_some, add_none] at e'
          injection e' with e'
          injection e' with e'
          subst e'
          exact hg _ _ _ _ rfl
        | some t =>
          exfalso
          cases xs with
          | nil =>
            obtain rfl : k = 0 := by simp at e2; omega
            rw [Option.map_some] at e'
            injection e' with e'
            unfold Addr.add at e'
            simp at e'
          | cons x xs =>
            obtain ⟨g1, o1, e1, _⟩ := hc 0 _ (by rw [show fcells (x :: xs) = frmL x.1.1 x.2 ++ fcells xs from by simp [fcells]]; rfl)
            injection e1 with e1
            injection e1 with _ _ e1
            cases e1
theorem FramesN.later {base : Nat} {v : Value} {W w' : World} {fs : List (List Int × List Int)} (h : FramesN base W v fs) (hb : Below W.heap.size W w') : FramesN base w' v fs := by
  obtain ⟨xs, e, h1, h2, h3⟩ := h
  exact ⟨xs, e, h1.later (S := Nowhere) (Keeps.ofBelow hb) (fun _ _ x => x), h2, fun x hx => ⟨(h3 x hx).1.later hb, (h3 x hx).2⟩⟩
theorem FramesN.mono {base base' : Nat} {v : Value} {W : World} {fs : List (List Int × List Int)} (h : FramesN base W v fs) (hb : base' ≤ base) : FramesN base' W v fs := by
  obtain ⟨xs, e, h1, h2, h3⟩ := h
  exact ⟨xs, e, h1, fun g o l c e => Nat.le_trans hb (h2 g o l c e), fun x hx => ⟨(h3 x hx).1, fun g o l c e => Nat.le_trans hb ((h3 x hx).2 g o l c e)⟩⟩
theorem FramesN.shape2 {base : Nat} {v : Value} {W : World} {fs : List (List Int × List Int)} (h : FramesN base W v fs) : ∃ a c, v = .slice a fs.length c ∧ fs.length ≤ c := by
  obtain ⟨xs, rfl, ⟨_, a, c, e, h1, _⟩, _⟩ := h
  exact ⟨a, c, by rw [List.length_map]; exact e, by rw [List.length_map]; exact h1⟩
/-- no byte lies in a box of a number and a list -/
theorem box_no8 {p o : Nat} {e : TypeId} {x1 y : Int} {a : Option Addr} {l c : Nat} {W : World} (hp : Cells W p e [.int .i64 x1, .slice a l c]) (h : W.cell? ⟨p, o, none⟩ = some (.int .u8 y)) : False := by
  rw [hp.cell] at h
  match o, h with
  | 0, h => simp at h
  | 1, h => simp at h
  | o + 2, h => simp at h
theorem Rd.keep {p : Nat} {e : TypeId} {x1 : Int} {a : Option Addr} {l c : Nat} {W w' : World} {v : Value} {ns : List Int} (h : Rd W v ns) (hp : Cells W p e [.int .i64 x1, .slice a l c]) (hk : Keeps (fun k => k = p) W w') : Rd w' v ns := by
  obtain ⟨⟨a', c', rfl, hl, hc⟩, hn⟩ := id h
  refine ⟨⟨a', c', rfl, hl, fun j u hj => ?_⟩, hn⟩
  obtain ⟨x, hx, hno, hce⟩ := hc j u hj
  have hlen : 0 < ns.length := by
    have := (List.getElem?_eq_some_iff.1 hj).1
    rw [bv_length] at this
    omega
  obtain ⟨sb, so, c2, e2, _⟩ := h.at hlen
  injection e2 with e2
  rw [hx] at e2
  injection e2 with e2
  subst e2
  obtain ⟨y, rfl⟩ : ∃ y, u = .int .u8 y := by
    unfold bv at hj
    rw [List.getElem?_map] at hj
    cases hy : ns[j]? with
    | none => rw [hy] at hj; cases hj
    | some y => rw [hy] at hj; simp at hj; exact ⟨y, hj.symm⟩
  refine ⟨_, hx, fun x => x, ?_⟩
  rw [add_none] at hce ⊢
  have hne : sb ≠ p := fun e => by subst e; exact box_no8 hp hce
  rw [World.cell?_of_block (w := W) (hk.block sb (World.block_lt_of_cell? W _ hce) hne)]
  exact hce
theorem FramesN.keep {base p : Nat} {e : TypeId} {x1 : Int} {a : Option Addr} {l c : Nat} {W w' : World} {v : Value} {fs : List (List Int × List Int)} (h : FramesN base W v fs) (hp : Cells W p e [.int .i64 x1, .slice a l c]) (hk : Keeps (fun k => k = p) W w') : FramesN base w' v fs := by
  obtain ⟨xs, e, ⟨hl, a', c', rfl, h1, h2, h3, hc⟩, hg, hx⟩ := h
  refine ⟨xs, e, ⟨hl, a', c', rfl, h1, h2, h3, fun j u hj => ?_⟩, hg, fun x hm => ⟨(hx x hm).1.keep hp hk, (hx x hm).2⟩⟩
  obtain ⟨g, o, rfl, hce⟩ := hc j u hj
  refine ⟨g, o, rfl, ?_⟩
  have hne : g ≠ p := fun eg => by
    subst eg
    cases xs with
    | nil => simp [fcells] at hj
    | cons x xs =>
      obtain ⟨g', o', e', hc0⟩ := hc 0 _ (by rw [show fcells (x :: xs) = frmL x.1.1 x.2 ++ fcells xs from by simp [fcells]]; rfl)
      injection e' with e'
      injection e' with e1 e2
      subst e1 e2
      exact box_no8 hp hc0
  rw [World.cell?_of_block (w := W) (hk.block g (World.block_lt_of_cell? W _ hce) hne)]
  exact hce
theorem Fd.put {v v' : Value} {W : World} (h : Fd w most v W) : Fd w most v' (W.setCell ⟨w.heap.size, 1, none⟩ v') ∧ Keeps (fun k => k = w.heap.size) W (W.setCell ⟨w.heap.size, 1, none⟩ v') := by
  have k : Keeps (fun k => k = w.heap.size) W (W.setCell ⟨w.heap.size, 1, none⟩ v') := (Keeps.refl (fun k => k = w.heap.size) W).setCell ⟨w.heap.size, 1, none⟩ _ (fun _ => rfl)
  exact ⟨⟨((Keeps.ofBelow (S := Nowhere) h.bel).next k (fun k e hlt => by omega)).bel, h.d.setCell 1 v', h.r.setOther _ _ (by show w.heap.size + 1 ≠ w.heap.size; omega)⟩, k⟩
end
end Go.Proofs.YtjhjhmhhnifgmaaDoor

/-
  culvertref05.Feed of a decoder that lives
-/
namespace Go.Proofs.YtjhjhmhhnifgmaaDoor
open Go.RowKit

section
variable {w : World} {most : Int} {F : List Int}
theorem slice_block {base k n : Nat} {e : TypeId} {v : Value} {ys : List Value} {g o l c : Nat} (h : w.ownsRow base e k v n ys) (hv : v = .slice (some ⟨g, o, none⟩) l c) : (Value.slice (some ⟨g, o, none⟩) l c).ownBlock = some g := by
  rcases h.2 with ⟨e2, _⟩ | ⟨g', cap, cur, e2, _⟩
  · rw [e2] at hv; cases hv
  · rw [e2] at hv
    injection hv with hv
    injection hv with hv
    injection hv with hv ho
    subst hv ho
    rfl
set_option maxRecDepth 20000 in
set_option maxHeartbeats 8000000 in
theorem refFeed_live (q : Option Addr) (L c : Nat) (R : Rd w (.slice q L c) F) (hb : AreBytes F) (ba : Option Addr) (bl bc : Nat) (B : List Int) (RB : Rd w (.slice ba bl bc) B) (hbb : AreBytes B) (hL : F.length + B.length ≤ 16777216) (hm : most ≠ 0) (hd : (prs most F).dead = none) :
    Calls Tryd.prog 7 #[.agg #[.int .i64 most, .slice q L c], .slice ba bl bc] w fun e w' => ∃ q' L' c' fq' fl' fc', e = .returned (.tuple #[.agg #[.int .i64 most, .slice q' L' c'], .slice fq' fl' fc', .int .i64 (codeS most (prs most (F ++ B)).dead)]) ∧ Aside (Rd w' (.slice q' L' c') (F ++ B) ∧ ∀ g o l c, Value.slice q' L' c' = .slice (some ⟨g, o, none⟩) l c → w.heap.size ≤ g) ∧ Aside (FramesN w.heap.size w' (.slice fq' fl' fc') ((prs most (F ++ B)).fs.drop (prs most F).fs.length)) ∧ Aside (Below w.heap.size w w') := by
  obtain ⟨W0, hW0⟩ : ∃ W0, W0 = (w.alloc (.cells #[.int .i64 most, .slice q L c] 31)).alloc (.cells #[.int .i64 0, .slice none 0 0] 31) := ⟨_, rfl⟩
  have P := Fd.start (w := w) most (.slice q L c)
  rw [← hW0] at P
  have P := Aside.mk P
  obtain ⟨d0, d1, _⟩ := P.it.cells
  have SY := Aside.mk (say_any (w := W0) (most := most) q L c F (R.later P.it.bel) hb (by omega))
  rw [hd] at SY
  simp only [restS, codeS, strmS] at SY
  obtain ⟨n, hn⟩ : ∃ n, (prs most F).rest.length = n := ⟨_, rfl⟩
  rw [hn] at SY
  have hm0 : (most == 0) = false := by simpa using hm
  have hsz : W0.heap.size = w.heap.size + 2 := by rw [hW0, World.size_alloc, World.size_alloc]
  have HSZ := Aside.mk hsz
  have RR := Aside.mk (And.intro R RB)
  have BBs : Aside (AreBytes (F ++ B)) := ⟨fun x hx => (List.mem_append.1 hx).elim (hb x) (hbb x)⟩
  have HL := Aside.mk hL
  have HPL : Aside ((prs most F).fs.length ≤ (prs most (F ++ B)).fs.length) := ⟨by
    have := parse_app (ck := ckH most) (sz := szN) F B hd
    show (parse (ckH most) szN F).fs.length ≤ (parse (ckH most) szN (F ++ B)).fs.length
    rw [this]
    simp⟩
  clear R RB hb hbb hL hd hm hsz hn
  go_enter Tryd.func7, Tryd.ntmps7
  go_upto_region 1 with fail
  rw [← hW0]
  clear hW0
  go_upto_region 4 with (first | (go_at_call 16; refine SY.it.mono ?_; clear SY; rintro e w1 ⟨fq, fl, fc, rfl, FR, B1⟩) | fail)
  have P2 := Aside.mk ((P.it.later B1.it).later (alloc_below w1 (.cells #[.slice fq fl fc, .int .i64 n, .int .i64 0, .int .u32 0] 57)))
  have T1 := Aside.mk (Cells.new w1 57 [.slice fq fl fc, .int .i64 n, .int .i64 0, .int .u32 0])
  have t2 := T1.it.cell 2
  simp only [List.getElem?_cons_zero, List.getElem?_cons_succ] at t2
  have htb : Aside (w.heap.size + 2 ≤ w1.heap.size ∧ w1.heap.size < (w1.alloc (.cells #[.slice fq fl fc, .int .i64 n, .int .i64 0, .int .u32 0] 57)).heap.size) := ⟨by have := B1.it.size; have := HSZ.it; omega, by rw [World.size_alloc]; omega⟩
  have hfl : Aside (fl = (prs most F).fs.length) := ⟨by
    obtain ⟨a, c', e⟩ := FR.it.r.shape
    injection e⟩
  clear d0 d1 P
  generalize w1.alloc (.cells #[.slice fq fl fc, .int .i64 n, .int .i64 0, .int .u32 0] 57) = w2 at t2 P2 T1 htb ⊢
  generalize w1.heap.size = tb at t2 htb T1 ⊢
  obtain ⟨d0, d1, _⟩ := P2.it.cells
  have KA : Keeps Nowhere w2 (w2.alloc (.cells #[] 5)) := (Keeps.refl _ _).alloc _
  obtain ⟨_, x1, _⟩ := (P2.it.later KA.bel).cells
  have OE : Aside ((w2.alloc (.cells #[] 5)).ownsRow 0 5 1 (.slice (some ⟨w2.heap.size, 0, none⟩) 0 0) ([] : List Int).length (bv [])) := ⟨own_new (B := 0) w2 [] 0 rfl (Nat.zero_le _) (by unfold maxLen; omega)⟩
  have RF : Aside (Rd (w2.alloc (.cells #[] 5)) (.slice q L c) F) := ⟨RR.it.1.later (P2.it.bel.trans (KA.bel.mono P2.it.bel.size))⟩
  have hb1 : Aside (([] : List Int).length + F.length ≤ 140737488355328) := ⟨by have := HL.it; simp; omega⟩
  go_upto_region 7 with (first | (at_builtin; refine wpList_appendO rfl (.tmp 22) (.tmp 24) rfl (.slice (some ⟨w2.heap.size, 0, none⟩) 0 0) (.slice q L c) [] F OE.it RF.it hb1.it rfl rfl ?_; intro q3 l3 c3 w3 O3 K3 B3) | fail)
  have KK3 : Aside (Keeps Nowhere w2 w3) := ⟨KA.next K3.it (fun k e hlt => by simp [Value.ownBlock] at e; omega)⟩
  have P3 := Aside.mk (P2.it.later KK3.it.bel)
  have T3 := Aside.mk (T1.it.later KK3.it (fun x => x))
  have N3 : Aside (∀ b, (Value.slice q3 l3 c3).ownBlock = some b → w2.heap.size ≤ b) := ⟨fun b hb => by
    rcases B3.it b hb with h | h
    · simp [Value.ownBlock] at h; omega
    · have := KA.size; omega⟩
  rw [List.nil_append] at O3
  have RB3 : Aside (Rd w3 (.slice ba bl bc) B) := ⟨RR.it.2.later P3.it.bel⟩
  have hb2 : Aside (F.length + B.length ≤ 140737488355328) := ⟨by have := HL.it; omega⟩
  clear d0 d1 t2 x1 OE RF hb1 KA K3 B3
  go_upto_region 8 with (first | (at_builtin; refine wpList_appendO rfl (.tmp 26) (.tmp 27) rfl (.slice q3 l3 c3) (.slice ba bl bc) F B O3.it RB3.it hb2.it rfl rfl ?_; intro q4 l4 c4 w4 O4 K4 B4) | fail)
  have KK4 : Aside (Keeps Nowhere w2 w4) := ⟨KK3.it.next K4.it (fun k e hlt => by have := N3.it k e; omega)⟩
  have P4 := Aside.mk (P2.it.later KK4.it.bel)
  have T4 := Aside.mk (T1.it.later KK4.it (fun x => x))
  have N4 : Aside (∀ b, (Value.slice q4 l4 c4).ownBlock = some b → w2.heap.size ≤ b) := ⟨fun b hb => by
    rcases B4.it b hb with h | h
    · exact N3.it b h
    · have := KK3.it.size; omega⟩
  clear P2 T1 P3 T3 RB3 hb2 O3 N3 K4 B4 KK3
  obtain ⟨d0, d1, _, _, _, _, g1⟩ := P4.it.cells
  obtain ⟨P5, K5⟩ := P4.it.put (v' := .slice q4 l4 c4)
  have P5 := Aside.mk P5
  have T5 := Aside.mk (T4.it.later K5 (by have := htb.it; omega))
  have R5 : Aside (Rd (w4.setCell ⟨w.heap.size, 1, none⟩ (.slice q4 l4 c4)) (.slice q4 l4 c4) (F ++ B)) := ⟨by
    have o5 := owns_later O4.it K5 (fun b hb e => by have := N4.it b hb; have := htb.it; omega)
    exact OwnB.rd (B := 0) o5⟩
  have hb5 : Aside (w.heap.size + 2 ≤ (w4.setCell ⟨w.heap.size, 1, none⟩ (.slice q4 l4 c4)).heap.size ∧ tb < (w4.setCell ⟨w.heap.size, 1, none⟩ (.slice q4 l4 c4)).heap.size) := ⟨by
    have h1 := K5.size
    have h2 := KK4.it.size
    have := htb.it
    omega⟩
  have NB : Aside (∀ g o l c, Value.slice q4 l4 c4 = .slice (some ⟨g, o, none⟩) l c → w.heap.size ≤ g) := ⟨fun g o l c e => by
    have := N4.it g (by rw [e]; exact slice_block O4.it e)
    have := htb.it
    omega⟩
  clear P4 T4 O4 K5
  go_upto_region 9 with fail
  generalize w4.setCell ⟨w.heap.size, 1, none⟩ (.slice q4 l4 c4) = w5 at P5 T5 R5 hb5 ⊢
  clear d0 d1 g1
  obtain ⟨d0, d1, _⟩ := P5.it.cells
  have SY := Aside.mk (say_any (w := w5) (most := most) q4 l4 c4 (F ++ B) R5.it BBs.it (by rw [List.length_append]; exact HL.it))
  obtain ⟨n2, hn2⟩ : ∃ n2, restS (prs most (F ++ B)).rest (prs most (F ++ B)).dead = n2 := ⟨_, rfl⟩
  obtain ⟨k2, hk2⟩ : ∃ k2, codeS most (prs most (F ++ B)).dead = k2 := ⟨_, rfl⟩
  obtain ⟨s2, hs2⟩ : ∃ s2, strmS (prs most (F ++ B)).dead = s2 := ⟨_, rfl⟩
  rw [hn2, hk2, hs2] at SY
  have HK2 := Aside.mk hk2
  clear hn2 hk2 hs2
  go_upto_region 10 with (first | (go_at_call 16; refine SY.it.mono ?_; clear SY; rintro e w6 ⟨gq, gl, gc, rfl, FR2, B6⟩) | fail)
  have A6 := alloc_below w6 (.cells #[.slice gq gl gc, .int .i64 n2, .int .i64 k2, .int .u32 s2] 57)
  have P7 := Aside.mk ((P5.it.later B6.it).later A6)
  have T7 := (T5.it.later (S := Nowhere) (Keeps.ofBelow B6.it) (fun x => x)).later (S := Nowhere) (Keeps.ofBelow A6) (fun x => x)
  have U7 := Cells.new w6 57 [.slice gq gl gc, .int .i64 n2, .int .i64 k2, .int .u32 s2]
  have R7 := Aside.mk ((R5.it.later B6.it).later A6)
  have F7 := Aside.mk ((FR2.it.mono (show w.heap.size ≤ w5.heap.size by have := hb5.it; omega)).later A6)
  have t0 := T7.cell 0
  have u0 := U7.cell 0
  have u2 := U7.cell 2
  simp only [List.getElem?_cons_zero, List.getElem?_cons_succ] at t0 u0 u2
  have hgl : Aside (gl = (prs most (F ++ B)).fs.length ∧ gl ≤ gc) := ⟨by
    obtain ⟨a, c', e, hc⟩ := FR2.it.shape2
    injection e with _ e2 e3
    exact ⟨e2, by omega⟩⟩
  have j1 : (fl : Int) ≤ (gl : Int) := by have := hgl.it.1; have := hfl.it; have := HPL.it; omega
  have j2 : (gl : Int) ≤ (gc : Int) := by have := hgl.it.2; omega
  have j3 : (0 : Int) ≤ (fl : Int) := by omega
  have hnb : Aside (w.heap.size + 2 ≤ w6.heap.size) := ⟨by have := B6.it.size; have := hb5.it; omega⟩
  have htb7 : Aside (w.heap.size + 2 ≤ tb) := ⟨htb.it.1⟩
  clear d0 d1 T7 U7 T5 P5 R5 A6 FR2
  generalize w6.alloc (.cells #[.slice gq gl gc, .int .i64 n2, .int .i64 k2, .int .u32 s2] 57) = w7 at P7 R7 F7 t0 u0 u2 ⊢
  generalize w6.heap.size = nb at u0 u2 hnb ⊢
  obtain ⟨d0, d1, e0, e1, f0, f1, _⟩ := P7.it.cells
  obtain ⟨D1, D2, D3⟩ := P7.it.done
  have y0 := D1.drew.cell 0
  have y1 := D1.drew.cell 1
  simp only [List.getElem?_cons_zero, List.getElem?_cons_succ] at y0 y1
  have D3 := Aside.mk (Keeps.drew (Keeps.ofBelow (S := Nowhere) D3)).bel
  have D2 := Aside.mk D2.drew
  have R8 := Aside.mk (R7.it.keep P7.it.r D2.it)
  have F8 := Aside.mk (F7.it.keep P7.it.r D2.it)
  have m1 : w.heap.size ≠ w.heap.size + 1 := by omega
  have m2 : tb ≠ w.heap.size + 1 := by have := htb7.it; omega
  have m3 : nb ≠ w.heap.size + 1 := by have := hnb.it; omega
  have m4 := m1.symm
  have m5 := m2.symm
  have m6 := m3.symm
  clear D1
  clear P7 R7 F7 D2
  by_cases hc : gc = fl
  · obtain rfl : gl = fl := by omega
    subst hc
    go_region_held3 (fun w' => w'.cell? ⟨w.heap.size, 0, none⟩ = some (.int .i64 most) ∧ w'.cell? ⟨w.heap.size, 1, none⟩ = some (.slice q4 l4 c4) ∧ w'.cell? ⟨tb, 0, none⟩ = some (.slice fq gc fc) ∧ w'.cell? ⟨nb, 0, none⟩ = some (.slice gq gc gc) ∧ w'.cell? ⟨nb, 2, none⟩ = some (.int .i64 k2)) (first | go_keep) (fail)
    generalize ((w7.setCell ⟨w.heap.size + 1, 0, none⟩ (.int .i64 most)).setCell ⟨w.heap.size + 1, 1, none⟩ (.slice q4 l4 c4)).drew = W8 at y0 y1 D3 R8 F8 ⊢
    go_wp2
    have FX := framesN_drop F8.it (k := gc) (Nat.le_refl _)
    rw [if_pos rfl, Nat.sub_self] at FX
    have FX := Aside.mk FX
    refine bodyPost_ret (v := .tuple #[.agg #[.int .i64 most, .slice q4 l4 c4], .slice gq 0 0, .int .i64 k2]) (by simp [results, Tryd.results7, go_sem, y0, y1]) rfl ?_
    exact ⟨q4, l4, c4, _, _, _, by rw [HK2.it], ⟨R8.it, NB.it⟩, ⟨by rw [← hfl.it]; exact FX.it⟩, D3⟩
  · go_region_held3 (fun w' => w'.cell? ⟨w.heap.size, 0, none⟩ = some (.int .i64 most) ∧ w'.cell? ⟨w.heap.size, 1, none⟩ = some (.slice q4 l4 c4) ∧ w'.cell? ⟨tb, 0, none⟩ = some (.slice fq fl fc) ∧ w'.cell? ⟨nb, 0, none⟩ = some (.slice gq gl gc) ∧ w'.cell? ⟨nb, 2, none⟩ = some (.int .i64 k2)) (first | go_keep) (fail)
    generalize ((w7.setCell ⟨w.heap.size + 1, 0, none⟩ (.int .i64 most)).setCell ⟨w.heap.size + 1, 1, none⟩ (.slice q4 l4 c4)).drew = W8 at y0 y1 D3 R8 F8 ⊢
    go_wp2
    have FX := framesN_drop F8.it (k := fl) (by omega)
    rw [if_neg hc] at FX
    have FX := Aside.mk FX
    refine bodyPost_ret (v := .tuple #[.agg #[.int .i64 most, .slice q4 l4 c4], .slice (gq.map (fun x => x.add (fl * 6))) (gl - fl) (gc - fl), .int .i64 k2]) (by simp [results, Tryd.results7, go_sem, y0, y1]) rfl ?_
    exact ⟨q4, l4, c4, _, _, _, by rw [HK2.it], ⟨R8.it, NB.it⟩, ⟨by rw [← hfl.it]; exact FX.it⟩, D3⟩
end
end Go.Proofs.YtjhjhmhhnifgmaaDoor

/-
  culvertref05.New; culvertlaw05.fails
-/
namespace Go.Proofs.YtjhjhmhhnifgmaaDoor
open Go.RowKit

section
variable {A : Nat → Addr} {w w0 : World} {own : Nat → Nat} {i j p : Nat} {most : Int} {hs : List Int} {dead : Option (List Int)}
theorem refNew_ok (h1 : 1 ≤ most) (h2 : most ≤ 65536) : Calls Tryd.prog 6 #[.int .i64 most] w fun e w' => e = .returned (.tuple #[.agg #[.int .i64 most, .slice none 0 0], .int .i64 0]) ∧ Aside (Below w.heap.size w w') := by
  obtain ⟨W0, hW0⟩ : ∃ W0, W0 = w.alloc (.cells #[.int .i64 0, .slice none 0 0] 31) := ⟨_, rfl⟩
  have C0 : Cells W0 w.heap.size 31 [.int .i64 0, .slice none 0 0] := by rw [hW0]; exact Cells.new w _ _
  have k0 : Keeps Nowhere w W0 := by rw [hW0]; exact (Keeps.refl _ _).alloc _
  have f0 := C0.frozen 0
  have f1 := C0.frozen 1
  have c0 := C0.cell 0
  have c1 := C0.cell 1
  have D := (C0.setCell 0 (.int .i64 most)).setCell 1 (.slice none 0 0)
  have y0 := D.cell 0
  have y1 := D.cell 1
  simp only [List.getElem?_cons_zero, List.getElem?_cons_succ, List.set_cons_zero, List.set_cons_succ] at c0 c1 y0 y1
  have K : Aside (Below w.heap.size w ((W0.setCell ⟨w.heap.size, 0, none⟩ (.int .i64 most)).setCell ⟨w.heap.size, 1, none⟩ (.slice none 0 0))) := ⟨(k0.next (((Keeps.refl (fun k => k = w.heap.size) W0).setCell ⟨w.heap.size, 0, none⟩ _ (fun _ => rfl)).setCell ⟨w.heap.size, 1, none⟩ _ (fun _ => rfl)) (fun k e hlt => by omega)).bel⟩
  have a1 : ¬ most < 1 := by omega
  have a2 : ¬ 65536 < most := by omega
  clear C0 D k0 h1 h2
  go_enter Tryd.func6, Tryd.ntmps6
  go_upto_region 1 with fail
  rw [← hW0]
  clear hW0
  go_wp2
  generalize ((W0.setCell ⟨w.heap.size, 0, none⟩ (.int .i64 most)).setCell ⟨w.heap.size, 1, none⟩ (.slice none 0 0)) = W1 at y0 y1 K ⊢
  refine bodyPost_ret (v := .tuple #[.agg #[.int .i64 most, .slice none 0 0], .int .i64 0]) (by simp [results, Tryd.results6, go_sem, y0, y1]) rfl ?_
  exact ⟨rfl, K⟩
theorem refNew_bad (h : most < 1 ∨ 65536 < most) : Calls Tryd.prog 6 #[.int .i64 most] w fun e w' => e = .returned (.tuple #[.agg #[.int .i64 0, .slice none 0 0], .int .i64 2]) ∧ Aside (Below w.heap.size w w') := by
  obtain ⟨W0, hW0⟩ : ∃ W0, W0 = w.alloc (.cells #[.int .i64 0, .slice none 0 0] 31) := ⟨_, rfl⟩
  have C0 : Cells W0 w.heap.size 31 [.int .i64 0, .slice none 0 0] := by rw [hW0]; exact Cells.new w _ _
  have k0 : Keeps Nowhere w W0 := by rw [hW0]; exact (Keeps.refl _ _).alloc _
  have f0 := C0.frozen 0
  have f1 := C0.frozen 1
  have c0 := C0.cell 0
  have c1 := C0.cell 1
  have D := (C0.setCell 0 (.int .i64 0)).setCell 1 (.slice none 0 0)
  have y0 := D.cell 0
  have y1 := D.cell 1
  simp only [List.getElem?_cons_zero, List.getElem?_cons_succ, List.set_cons_zero, List.set_cons_succ] at c0 c1 y0 y1
  have K : Aside (Below w.heap.size w ((W0.setCell ⟨w.heap.size, 0, none⟩ (.int .i64 0)).setCell ⟨w.heap.size, 1, none⟩ (.slice none 0 0))) := ⟨(k0.next (((Keeps.refl (fun k => k = w.heap.size) W0).setCell ⟨w.heap.size, 0, none⟩ _ (fun _ => rfl)).setCell ⟨w.heap.size, 1, none⟩ _ (fun _ => rfl)) (fun k e hlt => by omega)).bel⟩
  clear C0 D k0
  by_cases a1 : most < 1
  · go_enter Tryd.func6, Tryd.ntmps6
    go_upto_region 1 with fail
    rw [← hW0]
    clear hW0
    go_wp2
    generalize ((W0.setCell ⟨w.heap.size, 0, none⟩ (.int .i64 0)).setCell ⟨w.heap.size, 1, none⟩ (.slice none 0 0)) = W1 at y0 y1 K ⊢
    refine bodyPost_ret (v := .tuple #[.agg #[.int .i64 0, .slice none 0 0], .int .i64 2]) (by simp [results, Tryd.results6, go_sem, y0, y1]) rfl ?_
    exact ⟨rfl, K⟩
  · have a2 : 65536 < most := by omega
    go_enter Tryd.func6, Tryd.ntmps6
    go_upto_region 1 with fail
    rw [← hW0]
    clear hW0
    go_wp2
    generalize ((W0.setCell ⟨w.heap.size, 0, none⟩ (.int .i64 0)).setCell ⟨w.heap.size, 1, none⟩ (.slice none 0 0)) = W1 at y0 y1 K ⊢
    refine bodyPost_ret (v := .tuple #[.agg #[.int .i64 0, .slice none 0 0], .int .i64 2]) (by simp [results, Tryd.results6, go_sem, y0, y1]) rfl ?_
    exact ⟨rfl, K⟩
end
end Go.Proofs.YtjhjhmhhnifgmaaDoor

