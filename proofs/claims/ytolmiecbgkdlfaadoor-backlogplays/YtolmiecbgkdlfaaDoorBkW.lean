/-
  culvertlaw16.BacklogPlays
-/
import Derived.Test.YtolmiecbgkdlfaaDoorBkV
namespace Go.Proofs.YtolmiecbgkdlfaaDoor
open Go.RowKit

variable {A : Nat → Addr} {w w' W w0 : World} {own own' : Nat → Nat} {i p most nb b wb : Nat} {L Lp Ld Ln : List Nat} {v vn : Value} {I : Nat → Prop} {kd m : Int} {id : Nat}

/-- an op of a script -/
theorem op_cells {zs : List OpV16} {a : Option Addr} {c i : Nat} {z : OpV16} (h : ListAt Op16Ok 3 w (.slice a zs.length c) zs) (hi : zs[i]? = some z) :
    ∃ b o, a = some ⟨b, o, none⟩ ∧ w.cell? ⟨b, o + i * 3, none⟩ = some (.int .i64 z.kind) ∧ w.cell? ⟨b, o + i * 3 + 1, none⟩ = some (.int .i64 z.m) ∧ w.cell? ⟨b, o + i * 3 + 2, none⟩ = some (.int .u32 (z.id : Nat)) := by
  obtain ⟨a', c', e, _, _, h⟩ := h
  injection e with e1 _ e2
  subst e1
  obtain ⟨b, o, cs, rfl, ⟨rfl, hid⟩, _, hc⟩ := h i z hi
  exact ⟨b, o, rfl, hc 0 (by decide), hc 1 (by decide), hc 2 (by decide)⟩
/-- the Backlog, the document's and its box -/
structure Pw (A : Nat → Addr) (w0 : World) (own : Nat → Nat) (W : World) (p most : Nat) (L : List Nat) (vt : Value) (wb mb : Nat) (v : Value) : Prop where
  g : OnG A w0 own W
  t : Tp own 1 W p most L vt
  c : CellsO own 8 W wb 31 [.int .i64 mb, v]
theorem Pw.sn {vt : Value} {mb : Nat} (h : Pw A w0 own W p most L vt wb mb v) (s : Sn I own W own' w') (h0 : ¬ I 0) (h1 : ¬ I 1) (h8 : ¬ I 8) (h9 : ¬ I 9) : Pw A w0 own' w' p most L vt wb mb v := ⟨h.g.sn s h0, h.t.sn s h1 h9, h.c.sn s h8⟩
theorem Pw.step {vt : Value} {mb : Nat} (h : Pw A w0 own W p most L vt wb mb v) (hk : Keeps Nowhere W w') (r : Nat) : Pw A w0 (give own W.heap.size r) w' p most L vt wb mb v := h.sn (I := fun _ => False) (Sn.quiet hk r) (fun x => x) (fun x => x) (fun x => x) (fun x => x)
theorem Pw.quiet {vt : Value} {mb : Nat} (h : Pw A w0 own W p most L vt wb mb v) (hk : Keeps Nowhere W w') : Pw A w0 own w' p most L vt wb mb v := h.sn (I := fun _ => False) (Sn.same hk) (fun x => x) (fun x => x) (fun x => x) (fun x => x)
theorem Pw.cells {vt : Value} {mb : Nat} (h : Pw A w0 own W p most L vt wb mb v) : W.cell? ⟨wb, 0, none⟩ = some (.int .i64 mb) ∧ W.cell? ⟨wb, 1, none⟩ = some v ∧ W.frozen? ⟨wb, 0, none⟩ = false ∧ W.frozen? ⟨wb, 1, none⟩ = false := ⟨by rw [h.c.1.cell]; rfl, by rw [h.c.1.cell]; rfl, h.c.1.frozen 0, h.c.1.frozen 1⟩
theorem Pw.write {vt : Value} {mb : Nat} (h : Pw A w0 own W p most L vt wb mb v) : Pw A w0 own ((W.setCell ⟨wb, 0, none⟩ (.int .i64 most)).setCell ⟨wb, 1, none⟩ vt) p most L vt wb most vt := by
  have s8 : Sn (fun k => k = 8) own W own ((W.setCell ⟨wb, 0, none⟩ (.int .i64 most)).setCell ⟨wb, 1, none⟩ vt) := ⟨fun _ _ => rfl, ((Keeps.refl _ _).setCell _ _ (fun _ => h.c.2)).setCell _ _ (fun _ => h.c.2)⟩
  exact ⟨h.g.sn s8 (by decide), h.t.sn s8 (by decide) (by decide), ⟨(h.c.1.setCell 0 (.int .i64 most)).setCell 1 vt, h.c.2⟩⟩

set_option maxRecDepth 20000 in
set_option maxHeartbeats 4000000 in
theorem backlogPlays_walk {A : Nat → Addr} (s : Value) (zs : List OpV16) (w : World) (hs : Sents 92 codeVars A w) (hz : Ops16Arg w s zs) :
    Calls Tryd.prog 3 #[s] w fun e w' => e = .returned (.bool true) ∧ Below w.heap.size w w' := by
  obtain ⟨hz, hz24⟩ := hz
  have HZ := Aside.mk hz
  obtain ⟨a, c, rfl, hzc, hcm, _⟩ := hz
  obtain ⟨N, hN⟩ : ∃ N, zs.length = N := ⟨_, rfl⟩
  have HN := Aside.mk hN
  rw [hN] at hzc hz24 ⊢
  have WK := Aside.mk (awake16 hs)
  have HS := Aside.mk hs
  have hNm : (N : Int) ≤ 9223372036854775806 := by omega
  clear hs hN
  go_enter Tryd.func3, Tryd.ntmps3
  go_upto_region 3 with (go_at_call 6; refine WK.it.mono ?_; rintro e w1 ⟨rfl, K1⟩)
  clear WK
  have NW := Aside.mk (bnew_ok 3 (by decide) (by decide) w1 (fun _ => 0) 1)
  go_upto_region 4 with (go_at_call 7; refine NW.it.mono ?_; clear NW; rintro e w2 ⟨p, rfl, T2, _, K2⟩)
  have DN := Aside.mk (dnew_ok 3 w2 (by decide) (by decide))
  go_upto_region 5 with (go_at_call 8; refine DN.it.mono ?_; clear DN; rintro e w3 ⟨rfl, K3⟩)
  obtain ⟨wb, hwb⟩ : ∃ wb, w3.heap.size = wb := ⟨_, rfl⟩
  obtain ⟨own4, P4⟩ : ∃ own4, Aside (Pw A w own4 (w3.alloc (.cells #[.int .i64 3, .slice none 0 0] 31)) p 3 [] (.slice none 0 0) wb 3 (.slice none 0 0)) := by
    have G1 := (OnG.start HS.it).sn (I := fun _ => False) (Sn.same K1.it) (fun x => x)
    have s2 : Sn (fun _ => False) (fun _ => 0) w1 (give (fun _ => 0) w1.heap.size 1) w2 := Sn.quiet K2.it 1
    have s3 : Sn (fun _ => False) (give (fun _ => 0) w1.heap.size 1) w2 (give (give (fun _ => 0) w1.heap.size 1) w2.heap.size 8) (w3.alloc (.cells #[.int .i64 3, .slice none 0 0] 31)) := Sn.quiet (K3.it.alloc _) 8
    exact ⟨_, ⟨(G1.sn s2 (fun x => x)).sn s3 (fun x => x), ⟨T2.it.sn s3 (fun x => x), RdN.nil _ _, List.nodup_nil⟩, by rw [← hwb]; exact Cells.new w3 _ _, give_new (by rw [← hwb]; exact K3.it.size)⟩⟩
  rw [hwb]
  clear hwb T2
  generalize (w3.alloc (.cells #[.int .i64 3, .slice none 0 0] 31)) = W4 at P4 ⊢
  go_upto_region 6 with fail
  go_loopw [3, 7, 8, 9, 10, 11, 12, 13, 14] (fun pv v _ _ _ _ _ _ _ wr => ∃ (j q most : Nat) (L : List Nat) (vv : Value) (own : Nat → Nat), pv = ptr q ∧ v = .int .i64 j ∧ j ≤ N ∧ Aside (Pw A w own wr q most L vv wb most vv)) (fun _ v _ _ _ _ _ _ _ _ => N - natOf v)
  case atStart => exact ⟨0, p, 3, [], _, own4, rfl, rfl, Nat.zero_le _, P4⟩
  case round =>
    clear P4
    obtain ⟨j, q, most, L, vv, own, rfl, rfl, hj, P⟩ := hrel
    obtain ⟨va, vc, hvv⟩ := P.it.t.d.slc
    subst hvv
    obtain ⟨nl, hnl⟩ : ∃ nl, L.length = nl := ⟨_, rfl⟩
    rw [hnl] at P
    clear hnl
    obtain ⟨u0, u1, u2, u3⟩ := P.it.cells
    rcases Nat.eq_or_lt_of_le hj with rfl | hlt
    · have ST := Aside.mk (step16 own wr P.it.g P.it.t 0 0 0 (by decide))
      go_upto_region 21 with (first | (go_at_call 10; refine ST.it.mono ?_; rintro e w6 ⟨qa, ql, qc, L6, own6, rfl, X6⟩) | fail)
      go_wp2_with fail
      go_ret
      exact ⟨rfl, ((Keeps.ofBelow (P.it.g.sn X6.it.2 (by decide)).g.bel).alloc _).bel⟩
    · obtain ⟨z, hz⟩ : ∃ z, zs[j]? = some z := ⟨_, List.getElem?_eq_getElem (by rw [HN.it]; exact hlt)⟩
      have hzw := HZ.it
      rw [HN.it] at hzw
      obtain ⟨b, o, rfl, x0, x1, x2⟩ := op_cells (by rw [HN.it]; exact hzw) hz
      clear hz hzw
      obtain ⟨kd, m, id⟩ := z
      simp only at x0 x1 x2
      have KW : Keeps Nowhere w wr := Keeps.ofBelow P.it.g.g.bel
      have z0 : wr.cell? ⟨b, o + j * 3, none⟩ = some (.int .i64 kd) := by rw [World.cell?_of_block (w := w) (KW.block b (World.block_lt_of_cell? w _ x0) (fun x => x))]; exact x0
      have z1 : wr.cell? ⟨b, o + j * 3 + 1, none⟩ = some (.int .i64 m) := by rw [World.cell?_of_block (w := w) (KW.block b (World.block_lt_of_cell? w _ x0) (fun x => x))]; exact x1
      have z2 : wr.cell? ⟨b, o + j * 3 + 2, none⟩ = some (.int .u32 (id : Nat)) := by rw [World.cell?_of_block (w := w) (KW.block b (World.block_lt_of_cell? w _ x0) (fun x => x))]; exact x2
      clear x0 x1 x2 KW u0 u1 u2 u3
      have Q2 := Aside.mk (P.it.quiet ((Keeps.refl _ _).alloc (.cells #[.int .i64 kd, .int .i64 m, .int .u32 (id : Nat)] 36)))
      have OB : Cells (wr.alloc (.cells #[.int .i64 kd, .int .i64 m, .int .u32 (id : Nat)] 36)) wr.heap.size 36 [.int .i64 kd, .int .i64 m, .int .u32 (id : Nat)] := Cells.new wr _ _
      have d0 := OB.cell 0
      have d1 := OB.cell 1
      have d2 := OB.cell 2
      simp only [List.getElem?_cons_zero, List.getElem?_cons_succ] at d0 d1 d2
      have OB := Aside.mk OB
      go_upto_region 9 with fail
      clear z0 z1 z2
      generalize (wr.alloc (.cells #[.int .i64 kd, .int .i64 m, .int .u32 (id : Nat)] 36)) = W2 at Q2 OB d0 d1 d2 ⊢
      generalize wr.heap.size = ob at OB d0 d1 d2 ⊢
      obtain ⟨u0, u1, u2, u3⟩ := Q2.it.cells
      by_cases hk1 : kd = 1
      · subst hk1
        by_cases hr : m < 1 ∨ 1024 < m
        · have BN := Aside.mk (bnew_no m W2 _ (Q2.it.g.sents.cell 1 _ rfl) hr)
          go_upto_region 11 with (first | (go_at_call 7; refine BN.it.mono ?_; clear BN; rintro e w6 ⟨rfl, K6⟩) | fail)
          have Q6 := Aside.mk (Q2.it.quiet K6.it)
          have DN := Aside.mk (dnew_no m w6 hr)
          have d1' := (OB.it.later K6.it (fun x => x)).cell 1
          simp only [List.getElem?_cons_zero, List.getElem?_cons_succ] at d1'
          go_upto_region 12 with (first | (go_at_call 8; refine DN.it.mono ?_; clear DN; rintro e w7 ⟨rfl, K7⟩) | fail)
          have Q7 := Aside.mk (Q6.it.quiet (K7.it.alloc (.cells #[.int .i64 0, .slice none 0 0] 31)))
          have CD := Aside.mk (code_of Q7.it.g.sents (Coded.mk 1 2 (by decide) (by decide) rfl))
          go_wp2_with (first | (go_at_call 9; refine CD.it.mono ?_; clear CD; rintro e w8 ⟨rfl, hw8⟩; subst hw8) | fail)
          go_roundw
          case rel => exact ⟨j + 1, q, most, L, _, own, rfl, by go_num, by omega, Q7⟩
          case measure => simp [natOf]; omega
        · obtain ⟨mn, hmn⟩ : ∃ mn : Nat, m = mn := ⟨m.toNat, by omega⟩
          subst hmn
          have BN := Aside.mk (bnew_ok mn (by omega) (by omega) W2 own 1)
          go_upto_region 11 with (first | (go_at_call 7; refine BN.it.mono ?_; clear BN; rintro e w6 ⟨p6, rfl, T6, _, K6⟩) | fail)
          have Q6 := Aside.mk (Q2.it.step K6.it 1)
          have DN := Aside.mk (dnew_ok mn w6 (by omega) (by omega))
          have d1' := (OB.it.later K6.it (fun x => x)).cell 1
          simp only [List.getElem?_cons_zero, List.getElem?_cons_succ] at d1'
          generalize give own W2.heap.size 1 = own6 at T6 Q6
          go_upto_region 12 with (first | (go_at_call 8; refine DN.it.mono ?_; clear DN; rintro e w7 ⟨rfl, K7⟩) | fail)
          have K8 := Aside.mk (K7.it.alloc (.cells #[.int .i64 mn, .slice none 0 0] 31))
          have Q7 : Aside (Pw A w own6 (w7.alloc (.cells #[.int .i64 mn, .slice none 0 0] 31)) p6 mn [] (.slice none 0 0) wb most (.slice va nl vc)) := ⟨⟨(Q6.it.quiet K8.it).g, ⟨T6.it.quiet K8.it, RdN.nil _ _, List.nodup_nil⟩, (Q6.it.quiet K8.it).c⟩⟩
          have NB := Cells.new w7 31 [.int .i64 mn, .slice none 0 0]
          have n0 := NB.cell 0
          have n1 := NB.cell 1
          simp only [List.getElem?_cons_zero, List.getElem?_cons_succ] at n0 n1
          have CD := Aside.mk (code_nil (w7.alloc (.cells #[.int .i64 mn, .slice none 0 0] 31)))
          clear NB K8 T6 Q6
          generalize (w7.alloc (.cells #[.int .i64 mn, .slice none 0 0] 31)) = W7 at Q7 n0 n1 CD ⊢
          generalize w7.heap.size = nb at n0 n1 ⊢
          obtain ⟨u0', u1', u2', u3'⟩ := Q7.it.cells
          go_upto_region 15 with (first | (go_at_call 9; refine CD.it.mono ?_; clear CD; rintro e w8 ⟨rfl, hw8⟩; subst hw8) | fail)
          have QF := Aside.mk Q7.it.write
          go_region
          all_goals go_wp2_with fail
          all_goals
            go_roundw
            case rel => exact ⟨j + 1, p6, mn, [], _, own6, rfl, by go_num, by omega, ⟨QF.it.quiet (Keeps.refl _ _).drew⟩⟩
            case measure => simp [natOf]; omega
      · have ek : (kd == 1) = false := beq_eq_false_iff_ne.2 hk1
        clear hk1
        have ST := Aside.mk (step16 own W2 Q2.it.g Q2.it.t kd m id (by decide))
        go_upto_region 17 with (first | (go_at_call 10; refine ST.it.mono ?_; clear ST; rintro e w6 ⟨qa, ql, qc, L6, own6, rfl, X6⟩) | fail)
        have Q7 : Aside (Pw A w own6 (w6.alloc (.cells #[.int .i64 most, .slice qa ql qc] 31)) q most L6 (.slice qa ql qc) wb most (.slice va nl vc)) := ⟨Pw.quiet ⟨Q2.it.g.sn X6.it.2 (by decide), X6.it.1, Q2.it.c.sn X6.it.2 (by decide)⟩ ((Keeps.refl _ _).alloc _)⟩
        have NB := Cells.new w6 31 [.int .i64 most, .slice qa ql qc]
        have n0 := NB.cell 0
        have n1 := NB.cell 1
        simp only [List.getElem?_cons_zero, List.getElem?_cons_succ] at n0 n1
        clear NB X6
        generalize (w6.alloc (.cells #[.int .i64 most, .slice qa ql qc] 31)) = W7 at Q7 n0 n1 ⊢
        generalize w6.heap.size = nb at n0 n1 ⊢
        obtain ⟨u0', u1', u2', u3'⟩ := Q7.it.cells
        have QF := Aside.mk Q7.it.write
        go_wp2_with fail
        go_roundw
        case rel => exact ⟨j + 1, q, most, L6, _, own6, rfl, by go_num, by omega, QF⟩
        case measure => simp [natOf]; omega
end Go.Proofs.YtolmiecbgkdlfaaDoor
