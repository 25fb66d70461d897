/-
  culvertlaw24.TraceJudges
-/
import Derived.Test.YteojdangidnnkaaDoorTrK
import Derived.Test.YteojdangidnnkaaDoorAnyT
import Derived.Deep.CutBlock
namespace Go.Proofs.YteojdangidnnkaaDoor
open Go.RowKit Go.Maps

variable {A : Nat → Addr} {w w' w0 W : World} {own own' : Nat → Nat} {r : Rc} {L : Hs}
theorem strOf_append (x y : List Int) : strOf x ++ strOf y = strOf (x ++ y) := by
  apply ByteArray.ext
  simp [strOf, ByteArray.data_append]
theorem strOf_size (x : List Int) : (strOf x).size = x.length := by simp [strOf, ByteArray.size]
theorem OnG.cell {a : Addr} {x : Value} (hg : OnG A w0 own W) (h : w0.cell? a = some x) : W.cell? a = some x := by
  rw [hg.g.bel.cell (World.block_lt_of_cell? w0 _ h)]; exact h

/-- behind a round's call -/
def Jn (A : Nat → Addr) (w0 : World) (p : Nat) (key : Int) (m n : Nat) (iv ov : Value) (r : Rc) (W : World) : Prop := ∃ own T L, T ≤ m ∧ L.length ≤ n ∧ got L key = r ∧ r.Fin ∧ Jw A w0 own W p T L iv r.wr ov (r.wr.take r.rd)
set_option maxRecDepth 20000 in
set_option maxHeartbeats 4000000 in
theorem traceJudges_walkU {A : Nat → Addr} (key : Int) (s : Value) (zs : List OpV24) (w : World) (hs : LdT A w) (hkey : (Lit.int .i64 key).wf = true) (hz : Ops24ArgU w s zs) :
    Calls Tryd.prog 4 #[.int .i64 key, s] w fun e w' => e = .returned (.bool true) ∧ Below w.heap.size w w' := by
  obtain ⟨hz20, hz⟩ := hz
  have HZ := Aside.mk hz
  obtain ⟨a, c, rfl, hzc, hcm, _⟩ := hz
  obtain ⟨N, hN⟩ : ∃ N, zs.length = N := ⟨_, rfl⟩
  have HN := Aside.mk hN
  rw [hN] at hzc hz20 ⊢
  have FX := Aside.mk (fixed24 hs)
  have HS := Aside.mk hs
  have HK := Aside.mk (of_wf_i64 hkey)
  have hNm : (N : Int) ≤ 1048576 := by omega
  clear hs hN hkey
  go_enter Tryd.func4, Tryd.ntmps4
  go_upto_region 3 with (go_at_call 8; refine FX.it.mono ?_; rintro e w1 ⟨rfl, K1⟩)
  clear FX
  have NW := Aside.mk (newT w1 (fun _ => 0) 1)
  go_upto_region 4 with (go_at_call 9; refine NW.it.mono ?_; clear NW; rintro e w2 ⟨p, own2, rfl, X2⟩)
  have J2 : Aside (Jn A w p key 0 0 (.slice none 0 0) (.slice none 0 0) rc0 w2) := ⟨own2, 0, [], Nat.le_refl _, Nat.le_refl _, rfl, (fun h => by cases h), ⟨(OnG.start HS.it.s).sn (I := fun _ => False) (Sn.same K1.it) (fun x => x) |>.sn X2.it.2.2 (fun x => x), X2.it.1, RowB.nil _ _ _, RowB.nil _ _ _⟩⟩
  go_wp2_with fail
  go_loopw [6, 7, 8, 9, 23] (fun iv ov cv ev jv wr => ∃ (j : Nat) (r : Rc), jv = .int .i64 j ∧ j ≤ N ∧ cv = .bool r.cl ∧ ev = .bool r.en ∧ Aside (Jn A w p key (j * 1048576) j iv ov r wr)) (fun _ _ _ _ jv _ => N - natOfT jv)
  case atStart => exact ⟨0, rc0, rfl, Nat.zero_le _, rfl, rfl, J2⟩
  case round =>
    clear J2 X2
    obtain ⟨j, r, rfl, hj, rfl, rfl, J⟩ := hrel
    rcases Nat.eq_or_lt_of_le hj with rfl | hlt
    · go_wp2_with fail
      go_ret
      obtain ⟨own, T, L, _, _, _, _, jw⟩ := J.it
      exact ⟨rfl, jw.g.g.bel⟩
    · obtain ⟨z, hz⟩ : ∃ z, zs[j]? = some z := ⟨_, List.getElem?_eq_getElem (by rw [HN.it]; exact hlt)⟩
      have hzw := HZ.it
      rw [HN.it] at hzw
      obtain ⟨b, o, rfl, OC, hrd, hby, hnb, hzk, hzn⟩ := op24_cells (by rw [HN.it]; exact hzw) hz
      clear hz hzw
      obtain ⟨kd, ky, n, nx, sl, ns⟩ := z
      simp only at OC hrd hnb hby hzn
      obtain ⟨own, T, L, hT, hL, hgot, hfin, jw⟩ := J.it
      have ok := jw.t.ok
      have gok := ok.got key
      rw [hgot] at gok
      have GOK := Aside.mk gok
      have HF := Aside.mk hfin
      have HG := Aside.mk hgot
      have HTL := Aside.mk (And.intro hT hL)
      obtain ⟨sa, sc, hsl⟩ := hrd.shape
      subst hsl
      obtain ⟨B, hB⟩ : ∃ B, ns.length = B := ⟨_, rfl⟩
      have HB := Aside.mk hB
      have HRD := Aside.mk hrd
      have HBY := Aside.mk hby
      rw [hB] at OC HRD hnb
      obtain ⟨ia, ic, hiv⟩ := jw.i.shape
      obtain ⟨oa, oc, hov⟩ := jw.o.shape
      have hrdl := gok.rd
      obtain ⟨rd, hrd'⟩ : ∃ rd, r.rd = rd := ⟨_, rfl⟩
      have hol : (r.wr.take r.rd).length = rd := by rw [List.length_take]; omega
      rw [hol] at hov
      subst hiv hov
      have hic : r.wr.length ≤ ic := by have := jw.i.rd.len; omega
      have hTb : Aside (T + B ≤ 70368744177664 ∧ T + B ≤ (j + 1) * 1048576 ∧ L.length + 1 ≤ 2147483648 ∧ L.length + 1 ≤ j + 1) := ⟨by omega⟩
      have JW := Aside.mk jw
      have RR : Aside (RdS Nowhere wr (.slice ia r.wr.length ic) r.wr) := ⟨jw.i.rd⟩
      obtain ⟨wl, hwl⟩ : ∃ wl, r.wr.length = wl := ⟨_, rfl⟩
      have HWL := Aside.mk hwl
      have HRDD := Aside.mk hrd'
      have RE : Aside (Rd wr (.slice (if ic = rd then ia else ia.map (·.add rd)) (wl - rd) (ic - rd)) r.rest) := ⟨by have := RR.it.drop (n := r.rd) hrdl; rw [hwl, hrd'] at this; unfold Rc.rest; rw [hrd']; exact this⟩
      have hRl : Aside (r.rest.length = wl - rd) := ⟨by rw [Rc.rest_len, hwl, hrd']⟩
      rw [hwl] at JW RR hic hrdl ⊢
      rw [hrd'] at hrdl
      have g1 : (rd : Int) ≤ (wl : Int) := by omega
      have g2 : (wl : Int) ≤ (ic : Int) := by omega
      have hicm : ic ≤ maxLen := by
        rcases jw.i.1.2 with ⟨e, _⟩ | ⟨g, cap, cur, e, _, _, _, hm, _⟩
        · injection e with _ _ e; omega
        · injection e with _ _ e; omega
      have g3 : (ic : Int) ≤ 9223372036854775807 := by unfold maxLen at hicm; omega
      have i1 : (j : Int) ≤ 9223372036854775806 := by omega
      have k0 := jw.g.cell OC.it.1
      have k1 := jw.g.cell OC.it.2.1
      have k2 := jw.g.cell OC.it.2.2.1
      have k3 := jw.g.cell OC.it.2.2.2.1
      have k4 := jw.g.cell OC.it.2.2.2.2
      have K3 : Aside (Keeps Nowhere wr (wr.alloc (.cells #[.int .i64 kd, .int .i64 ky, .int .i64 n, .bool nx, .slice sa B sc] 31))) := ⟨(Keeps.refl _ _).alloc _⟩
      have C3 : Aside (Cells (wr.alloc (.cells #[.int .i64 kd, .int .i64 ky, .int .i64 n, .bool nx, .slice sa B sc] 31)) wr.heap.size 31 [.int .i64 kd, .int .i64 ky, .int .i64 n, .bool nx, .slice sa B sc]) := ⟨Cells.new wr _ _⟩
      clear J jw ok gok hfin hgot hT hL hB hrd hby hol hwl hrd' hicm
      go_upto_region 9 with fail
      clear k0 k1 k2 k3 k4
      generalize wr.alloc (.cells #[.int .i64 kd, .int .i64 ky, .int .i64 n, .bool nx, .slice sa B sc] 31) = w3 at K3 C3 ⊢
      obtain ⟨ob, hobe⟩ : ∃ ob, wr.heap.size = ob := ⟨_, rfl⟩
      rw [hobe] at C3 ⊢
      have hob0 : Aside (wr.heap.size ≤ ob) := ⟨by omega⟩
      clear hobe
      go_upto_region 10 with fail
      have RE3 := Aside.mk (RE.it.later K3.it.bel)
      generalize (if ic = rd then ia else Option.map (fun x => x.add rd) ia) = rq at RE3 ⊢
      clear RE
      generalize (ic - rd) = rc at RE3 ⊢
      obtain ⟨Rn, hRn⟩ : ∃ Rn, wl - rd = Rn := ⟨_, rfl⟩
      rw [hRn] at RE3 hRl ⊢
      have HRn := Aside.mk hRn
      clear hRn
      have BT := Aside.mk (bytes_at (kd := kd) (key := ky) (n := n) (next := nx) ((JW.it.quiet K3.it).grd HRD.it) RE3.it (by rw [HB.it]; omega) (by rw [hRl.it]; have := GOK.it.len; have := HWL.it; have := HRn.it; have := hTb.it.1; omega))
      obtain ⟨ms, hms⟩ : ∃ ms, givB nx n ns r.rest = ms := ⟨_, rfl⟩
      rw [hms] at BT
      have HBM : Aside (AreBytes ms) := ⟨by
        rw [← hms]
        unfold givB
        split
        · exact fun y hy => GOK.it.byte y (List.mem_of_mem_drop (List.mem_of_mem_take hy))
        · exact HBY.it⟩
      obtain ⟨M, hM⟩ : ∃ M, ms.length = M := ⟨_, rfl⟩
      rw [hM] at BT
      have HM := Aside.mk hM
      have d0 : w3.cell? ⟨ob, 0, none⟩ = some (.int .i64 kd) := by rw [C3.it.cell]; rfl
      have d1 : w3.cell? ⟨ob, 1, none⟩ = some (.int .i64 ky) := by rw [C3.it.cell]; rfl
      have d2 : w3.cell? ⟨ob, 2, none⟩ = some (.int .i64 n) := by rw [C3.it.cell]; rfl
      have d3 : w3.cell? ⟨ob, 3, none⟩ = some (.bool nx) := by rw [C3.it.cell]; rfl
      have d4 : w3.cell? ⟨ob, 4, none⟩ = some (.slice sa B sc) := by rw [C3.it.cell]; rfl
      clear hms hM
      go_upto_region 11 with (first | (go_at_call 16; refine BT.it.mono ?_; rintro e w4 ⟨q4, c4, rfl, R4, K4⟩) | fail)
      clear d0 d1 d2 d3 d4 BT
      have C4 := Aside.mk (C3.it.later K4.it (fun x => x))
      have J4 := Aside.mk ((JW.it.step K3.it 8).step K4.it 4)
      have B4 : Aside (Rd w4 (.slice q4 M c4) ms) := ⟨OwnB.rd R4.it⟩
      have RE4 := Aside.mk (RE3.it.later K4.it.bel)
      have hb4 : Aside (∀ g, (Value.slice q4 M c4).ownBlock = some g → g < w4.heap.size ∧ give (give own wr.heap.size 8) w3.heap.size 4 g = 4) := ⟨fun g hg => ⟨owns_lt R4.it g hg, give_new (owns_base R4.it g hg)⟩⟩
      have HSL := Aside.mk (J4.it.grd HRD.it)
      have hob : Aside (give (give own wr.heap.size 8) w3.heap.size 4 ob = 8) := ⟨by rw [give_old C3.it.lt]; exact give_new hob0.it⟩
      generalize give (give own wr.heap.size 8) w3.heap.size 4 = own4 at J4 hob hb4
      clear K3 C3 RE3 R4 K4 JW
      have d0 : w4.cell? ⟨ob, 0, none⟩ = some (.int .i64 kd) := by rw [C4.it.cell]; rfl
      have d4 : w4.cell? ⟨ob, 4, none⟩ = some (.slice sa B sc) := by rw [C4.it.cell]; rfl
      go_upto_block 2 with fail
      go_cut [6, 7, 8, 9] (fun iv' ov' cv' ev' wx => ∃ r' : Rc, cv' = .bool r'.cl ∧ ev' = .bool r'.en ∧ Aside (Jn A w p key ((j + 1) * 1048576) (j + 1) iv' ov' r' wx))
      case first =>
        by_cases q0 : kd = 0
        · subst q0
          have WR := Aside.mk (wrote_at J4.it.t HK.it J4.it.g.sents HSL.it HBY.it (by rw [HB.it]; exact hTb.it.1) hTb.it.2.2.1)
          have HGW := Aside.mk (show got (wroteL L key ns) key = wroteR r ns by rw [got_wrote, HG.it])
          unfold wroteC at WR
          rw [HG.it] at WR
          cases hcl : r.cl with
          | true =>
            rw [hcl] at WR
            simp only [if_true] at WR
            have HR : Aside (wroteR r ns = r) := ⟨by unfold wroteR; rw [hcl]; rfl⟩
            have HCL := Aside.mk hcl
            clear hcl
            go_wp2_with (first | (go_at_call 17; refine WR.it.mono ?_; rintro e w5 ⟨ev5, own5, rfl, D5, X5⟩; obtain ⟨a5, hv5⟩ := Coded.pos D5.out (by decide); subst hv5) | fail)
            go_meet
            exact ⟨r, by rw [HCL.it], rfl, ⟨own5, T + ns.length, _, by rw [HB.it]; exact hTb.it.2.1, Nat.le_trans (len_wrote J4.it.t.ok key ns) hTb.it.2.2.2, by rw [HGW.it, HR.it], HF.it, J4.it.move X5.it.1 X5.it.2⟩⟩
          | false =>
            rw [hcl] at WR
            simp only [Bool.false_eq_true, if_false] at WR
            have HR : Aside (wroteR r ns = ⟨r.wr ++ ns, r.rd, false, r.en⟩) := ⟨by unfold wroteR; rw [hcl]; rfl⟩
            clear hcl
            have bd : Aside (r.wr.length + ns.length ≤ 140737488355328) := ⟨by have := GOK.it.len; have := hTb.it.1; have := HB.it; omega⟩
            go_wp2_with (first
              | (go_at_call 17; refine WR.it.mono ?_; rintro e w5 ⟨ev5, own5, rfl, D5, X5⟩; have e5 : ev5 = .nilIface := Coded.zero D5.out; subst e5
                 have J5 := Aside.mk (J4.it.move X5.it.1 X5.it.2)
                 have C5 := C4.it.later X5.it.2.keeps (fun e => by have e : own4 ob = 1 := e; have := hob.it; omega)
                 have e4 : w5.cell? ⟨ob, 4, none⟩ = some (.slice sa B sc) := (by rw [C5.cell]; rfl)
                 have HS5 := Aside.mk (J5.it.grd HRD.it)
                 clear C5)
              | (at_builtin; refine wpList_appendO rfl _ _ rfl _ _ r.wr ns J5.it.i.1 HS5.it bd.it rfl rfl ?_; intro q6 l6 c6 w6 O6 K6 B6)
              | fail)
            go_meet
            obtain ⟨i6, s6⟩ := J5.it.i.app O6.it (by have := K6.it; exact this) (by have := B6.it; exact this)
            refine ⟨⟨r.wr ++ ns, r.rd, false, r.en⟩, rfl, rfl, ⟨give own5 w5.heap.size 2, T + ns.length, _, by rw [HB.it]; exact hTb.it.2.1, Nat.le_trans (len_wrote J4.it.t.ok key ns) hTb.it.2.2.2, by rw [HGW.it, HR.it], by rw [← HR.it]; exact HF.it.wrote ns, ?_⟩⟩
            refine ⟨J5.it.g.sn s6 (by decide), J5.it.t.sn s6 (by decide), i6, ?_⟩
            simp only
            rw [List.take_append_of_le_length GOK.it.rd]
            exact J5.it.o.sn s6 (by decide)
        · by_cases q1 : kd = 1
          · subst q1
            clear q0
            have WR := Aside.mk (closed_at J4.it.t HK.it J4.it.g.sents hTb.it.2.2.1)
            have HGW := Aside.mk (show got (closedL L key) key = closedR r by rw [got_closed, HG.it])
            unfold wroteC at WR
            rw [HG.it] at WR
            have fin : Aside (∀ own5 w5, TrO own5 1 w5 p T (closedL L key) ∧ Sn (fun x => x = 1) own4 w4 own5 w5 → Jn A w p key ((j + 1) * 1048576) (j + 1) (.slice ia wl ic) (.slice oa rd oc) (closedR r) w5) := ⟨fun own5 w5 X => ⟨own5, T, _, by have := hTb.it.2.1; omega, Nat.le_trans (len_closed J4.it.t.ok key) hTb.it.2.2.2, HGW.it, HF.it.closed, J4.it.move X.1 X.2⟩⟩
            cases hcl : r.cl with
            | true =>
              rw [hcl] at WR
              simp only [if_true] at WR
              clear hcl
              go_wp2_with (first | (go_at_call 18; refine WR.it.mono ?_; rintro e w5 ⟨ev5, own5, rfl, D5, X5⟩; obtain ⟨a5, hv5⟩ := Coded.pos D5.out (by decide); subst hv5) | fail)
              go_meet
              exact ⟨closedR r, rfl, rfl, ⟨fin.it own5 w5 X5.it⟩⟩
            | false =>
              rw [hcl] at WR
              simp only [Bool.false_eq_true, if_false] at WR
              clear hcl
              go_wp2_with (first | (go_at_call 18; refine WR.it.mono ?_; rintro e w5 ⟨ev5, own5, rfl, D5, X5⟩; have e5 : ev5 = .nilIface := Coded.zero D5.out; subst e5) | fail)
              go_meet
              exact ⟨closedR r, rfl, rfl, ⟨fin.it own5 w5 X5.it⟩⟩
          · by_cases q2 : kd = 2
            · subst q2
              clear q0 q1
              go_upto_region 26 with fail
              go_cut [14] (fun t wx => t = .bool (gaveRB r ms) ∧ ∃ m, wx = w4.drewN m)
              case first =>
                by_cases hle : M ≤ Rn
                · have d1 : decide ((M : Int) ≤ (Rn : Int)) = true := decide_eq_true (by omega)
                  have d2 : decide (M ≤ Rn) = true := decide_eq_true hle
                  have em : min (M : Int) (Rn : Int) = (M : Int) := by omega
                  have v1 := fun m => rd_conv ((RE4.it.take hle).later (((Keeps.refl Nowhere w4).drewN m).bel))
                  have v2 := fun m => rd_conv (B4.it.later (((Keeps.refl Nowhere w4).drewN m).bel))
                  have hrb : AreBytes (r.rest.take M) := fun y hy => GOK.it.byte y (List.mem_of_mem_drop (List.mem_of_mem_take hy))
                  have eb : ((strOf (r.rest.take M)).toList == (strOf ms).toList) = gaveRB r ms := by
                    rw [strOf_beq hrb HBM.it]
                    unfold gaveRB
                    rw [HM.it, hRl.it, d2, Bool.true_and]
                  have g4 : (M : Int) ≤ (Rn : Int) := by omega
                  have g5 : (Rn : Int) ≤ (rc : Int) := by have := RE4.it.len; omega
                  go_quiet (fail)
                  go_wp2_with fail
                  go_meet
                  exact ⟨rfl, _, rfl⟩
                · have d1 : decide ((M : Int) ≤ (Rn : Int)) = false := decide_eq_false (by omega)
                  have d2 : decide (M ≤ Rn) = false := decide_eq_false hle
                  have eb : gaveRB r ms = false := by unfold gaveRB; rw [HM.it, hRl.it, d2, Bool.false_and]
                  go_quiet (fail)
                  go_wp2_with fail
                  go_meet
                  exact ⟨by rw [eb], _, rfl⟩
              case rest =>
                obtain ⟨rfl, mm, hwx⟩ := hcut
                have Kc : Aside (Keeps Nowhere w4 wc) := ⟨by rw [hwx]; exact (Keeps.refl _ _).drewN _⟩
                clear hwx
                have J5 := Aside.mk (J4.it.quiet Kc.it)
                have GV := Aside.mk (gave_at J5.it.t HK.it J5.it.g.sents (B4.it.later Kc.it.bel) HBM.it (by have := hTb.it.1; omega) hTb.it.2.2.1)
                have HGW := Aside.mk (show got (gaveL L key ms) key = gaveR r ms by rw [got_gave, HG.it])
                have hgc : gaveC L key ms = if gaveRB r ms then 0 else 39 := by unfold gaveC; rw [← HG.it]; rfl
                rw [hgc] at GV
                clear hgc
                have B6f : Aside (∀ own5 w5, Sn (fun x => x = 1) own4 wc own5 w5 → Rd w5 (.slice q4 M c4) ms) := ⟨fun own5 w5 sn => (B4.it.later Kc.it.bel).keep sn.keeps (fun g hg e => by have e : own4 g = 1 := e; have := (hb4.it g hg).2; omega)⟩
                cases hg : gaveRB r ms with
                | false =>
                  rw [hg] at GV
                  simp only [Bool.false_eq_true, if_false] at GV
                  have HR : Aside (gaveR r ms = r) := ⟨by unfold gaveR; rw [hg]; rfl⟩
                  clear hg
                  go_wp2_with (first | (go_at_call 19; refine GV.it.mono ?_; rintro e w5 ⟨ev5, own5, rfl, D5, X5⟩; obtain ⟨a5, hv5⟩ := Coded.pos D5.out (by decide); subst hv5) | fail)
                  go_meet
                  exact ⟨r, rfl, rfl, ⟨own5, T, _, by have := hTb.it.2.1; omega, Nat.le_trans (len_gave J4.it.t.ok key ms) hTb.it.2.2.2, by rw [HGW.it, HR.it], HF.it, J5.it.move X5.it.1 X5.it.2⟩⟩
                | true =>
                  rw [hg] at GV
                  simp only [if_true] at GV
                  have HR : Aside (gaveR r ms = ⟨r.wr, r.rd + ms.length, r.cl, r.en⟩) := ⟨by unfold gaveR; rw [hg]; rfl⟩
                  have HTK := Aside.mk (take_gave hg)
                  have bd : Aside ((r.wr.take r.rd).length + ms.length ≤ 140737488355328) := ⟨by
                    unfold gaveRB at hg
                    rw [Bool.and_eq_true, decide_eq_true_eq] at hg
                    have h1 := hg.1
                    rw [Rc.rest_len] at h1
                    rw [List.length_take]
                    have := GOK.it.len; have := hTb.it.1
                    omega⟩
                  clear hg
                  go_wp2_with (first
                    | (go_at_call 19; refine GV.it.mono ?_; rintro e w5 ⟨ev5, own5, rfl, D5, X5⟩; have e5 : ev5 = .nilIface := Coded.zero D5.out; subst e5
                       have J6 := Aside.mk (J5.it.move X5.it.1 X5.it.2)
                       have B6 := Aside.mk (B6f.it own5 w5 X5.it.2))
                    | (at_builtin; refine wpList_appendO rfl _ _ rfl _ _ (r.wr.take r.rd) ms J6.it.o.1 B6.it bd.it rfl rfl ?_; intro q6 l6 c6 w6 O6 K6 U6)
                    | fail)
                  go_meet
                  obtain ⟨o6, s6⟩ := J6.it.o.app O6.it K6.it U6.it
                  refine ⟨⟨r.wr, r.rd + ms.length, r.cl, r.en⟩, rfl, rfl, ⟨give own5 w5.heap.size 3, T, _, by have := hTb.it.2.1; omega, Nat.le_trans (len_gave J4.it.t.ok key ms) hTb.it.2.2.2, by rw [HGW.it, HR.it], by rw [← HR.it]; exact HF.it.gave ms, ?_⟩⟩
                  refine ⟨J6.it.g.sn s6 (by decide), J6.it.t.sn s6 (by decide), J6.it.i.sn s6 (by decide), ?_⟩
                  simp only
                  rw [HTK.it]
                  exact o6
            · have f0 : (kd == 0) = false := by simp [q0]
              have f1 : (kd == 1) = false := by simp [q1]
              have f2 : (kd == 2) = false := by simp [q2]
              clear q0 q1 q2
              go_upto_region 12 with fail
              go_cut [8, 15] (fun cv t wx => cv = .bool r.cl ∧ t = .bool (endedRB r) ∧ wx = w4)
              case first =>
                have hrn : ((Rn : Int) == 0) = decide (r.rd = r.wr.length) := by
                  have h1 := HRn.it; have h2 := HWL.it; have h3 := HRDD.it
                  by_cases h : r.rd = r.wr.length
                  · have : Rn = 0 := by omega
                    simp [h, this]
                  · have : ¬ Rn = 0 := by omega
                    simp [h, this]
                have hER := Aside.mk (show endedRB r = (r.cl && decide (r.rd = r.wr.length)) from rfl)
                cases hcl : r.cl with
                | true =>
                  rw [hcl, Bool.true_and] at hER
                  have HCL := Aside.mk hcl
                  clear hcl
                  go_wp2_with fail
                  go_meet
                  exact ⟨by rw [HCL.it], by rw [hER.it], rfl⟩
                | false =>
                  rw [hcl, Bool.false_and] at hER
                  have HCL := Aside.mk hcl
                  clear hcl
                  go_wp2_with fail
                  go_meet
                  exact ⟨by rw [HCL.it], by rw [hER.it], rfl⟩
              case rest =>
                obtain ⟨rfl, rfl, hwx⟩ := hcut
                subst hwx
                have EN := Aside.mk (ended_at J4.it.t HK.it J4.it.g.sents hTb.it.2.2.1)
                have HGW := Aside.mk (show got (endedL L key) key = endedR r by rw [got_ended, HG.it])
                have hgc : endedC L key = if endedRB r then 0 else 39 := by unfold endedC; rw [← HG.it]; rfl
                rw [hgc] at EN
                clear hgc
                have fin : Aside (∀ own5 w5, TrO own5 1 w5 p T (endedL L key) ∧ Sn (fun x => x = 1) own4 wc own5 w5 → Jn A w p key ((j + 1) * 1048576) (j + 1) (.slice ia wl ic) (.slice oa rd oc) (endedR r) w5) := ⟨fun own5 w5 X => ⟨own5, T, _, by have := hTb.it.2.1; omega, Nat.le_trans (len_ended J4.it.t.ok key) hTb.it.2.2.2, HGW.it, HF.it.ended, by have := J4.it.move X.1 X.2; unfold endedR; split <;> exact this⟩⟩
                cases hg : endedRB r with
                | false =>
                  rw [hg] at EN
                  simp only [Bool.false_eq_true, if_false] at EN
                  have HR : Aside (endedR r = r) := ⟨by unfold endedR; rw [hg]; rfl⟩
                  clear hg
                  rw [HR.it] at fin
                  cases hen : r.en with
                  | true =>
                    have HEN := Aside.mk hen
                    clear hen
                    go_wp2_with (first | (go_at_call 20; refine EN.it.mono ?_; rintro e w5 ⟨ev5, own5, rfl, D5, X5⟩; obtain ⟨a5, hv5⟩ := Coded.pos D5.out (by decide); subst hv5) | fail)
                    go_meet
                    exact ⟨r, rfl, by rw [HEN.it], ⟨fin.it own5 w5 X5.it⟩⟩
                  | false =>
                    have HEN := Aside.mk hen
                    clear hen
                    go_wp2_with (first | (go_at_call 20; refine EN.it.mono ?_; rintro e w5 ⟨ev5, own5, rfl, D5, X5⟩; obtain ⟨a5, hv5⟩ := Coded.pos D5.out (by decide); subst hv5) | fail)
                    go_meet
                    exact ⟨r, rfl, by rw [HEN.it], ⟨fin.it own5 w5 X5.it⟩⟩
                | true =>
                  rw [hg] at EN
                  simp only [if_true] at EN
                  have HR : Aside (endedR r = { r with en := true }) := ⟨by unfold endedR; rw [hg]; rfl⟩
                  clear hg
                  rw [HR.it] at fin
                  cases hen : r.en with
                  | true =>
                    clear hen
                    go_wp2_with (first | (go_at_call 20; refine EN.it.mono ?_; rintro e w5 ⟨ev5, own5, rfl, D5, X5⟩; have e5 : ev5 = .nilIface := Coded.zero D5.out; subst e5) | fail)
                    go_meet
                    exact ⟨{ r with en := true }, rfl, rfl, ⟨fin.it own5 w5 X5.it⟩⟩
                  | false =>
                    clear hen
                    go_wp2_with (first | (go_at_call 20; refine EN.it.mono ?_; rintro e w5 ⟨ev5, own5, rfl, D5, X5⟩; have e5 : ev5 = .nilIface := Coded.zero D5.out; subst e5) | fail)
                    go_meet
                    exact ⟨{ r with en := true }, rfl, rfl, ⟨fin.it own5 w5 X5.it⟩⟩
      case rest =>
        obtain ⟨r', rfl, rfl, JN⟩ := hcut
        obtain ⟨own6, T6, L6, hT6, hL6, hg6, hf6, J6⟩ := JN.it
        clear JN J4 C4 B4 RE4 HSL d0 d4
        have J6 := Aside.mk J6
        have HG6 := Aside.mk hg6
        have ok6 := J6.it.t.ok.got key
        rw [hg6] at ok6
        have OK6 := Aside.mk ok6
        have HF6 := Aside.mk hf6
        have HT6 := Aside.mk (And.intro hT6 hL6)
        have PS := Aside.mk (past_at J6.it.t HK.it)
        rw [hg6] at PS
        obtain ⟨ia6, ic6, hi6⟩ := J6.it.i.shape
        obtain ⟨oa6, oc6, ho6⟩ := J6.it.o.shape
        subst hi6 ho6
        obtain ⟨wl6, hwl6⟩ : ∃ wl6, r'.wr.length = wl6 := ⟨_, rfl⟩
        obtain ⟨rd6, hrd6⟩ : ∃ rd6, r'.rd = rd6 := ⟨_, rfl⟩
        have hol6 : (r'.wr.take r'.rd).length = rd6 := by rw [List.length_take]; have := ok6.rd; omega
        rw [hwl6, hol6] at J6 ⊢
        simp only [pastV, hwl6, hrd6] at PS
        obtain ⟨kn, hkn⟩ : ∃ kn, (tget L6 key).isSome = kn := ⟨_, rfl⟩
        rw [hkn] at PS
        have HW6 := Aside.mk (And.intro hwl6 hrd6)
        clear hg6 ok6 hf6 hT6 hL6 hwl6 hrd6 hol6 hkn
        go_upto_region 32 with (first | (go_at_call 21; refine PS.it.mono ?_; rintro e w7 ⟨rfl, K7⟩) | fail)
        obtain ⟨pb, hpb⟩ : ∃ pb, w7.heap.size = pb := ⟨_, rfl⟩
        have C8 : Aside (Cells (w7.alloc (.cells #[.int .i64 wl6, .int .i64 rd6, .bool r'.cl, .bool r'.en] 47)) pb 47 [.int .i64 wl6, .int .i64 rd6, .bool r'.cl, .bool r'.en]) := ⟨by rw [← hpb]; exact Cells.new w7 _ _⟩
        have K8 : Aside (Keeps Nowhere wc (w7.alloc (.cells #[.int .i64 wl6, .int .i64 rd6, .bool r'.cl, .bool r'.en] 47))) := ⟨K7.it.alloc _⟩
        rw [hpb]
        generalize w7.alloc (.cells #[.int .i64 wl6, .int .i64 rd6, .bool r'.cl, .bool r'.en] 47) = w8 at C8 K8 ⊢
        clear hpb K7 PS
        have J8 := Aside.mk (J6.it.quiet K8.it)
        have pn := past_neql wl6 rd6 r'.cl r'.en
        have x0 : w8.cell? ⟨pb, 0, none⟩ = some (.int .i64 wl6) := by rw [C8.it.cell]; rfl
        have x1 : w8.cell? ⟨pb, 1, none⟩ = some (.int .i64 rd6) := by rw [C8.it.cell]; rfl
        have x2 : w8.cell? ⟨pb, 2, none⟩ = some (.bool r'.cl) := by rw [C8.it.cell]; rfl
        have x3 : w8.cell? ⟨pb, 3, none⟩ = some (.bool r'.en) := by rw [C8.it.cell]; rfl
        obtain ⟨So, hSo⟩ : ∃ So, strOf (r'.wr.take r'.rd) = So := ⟨_, rfl⟩
        obtain ⟨Sr, hSr⟩ : ∃ Sr, strOf r'.rest = Sr := ⟨_, rfl⟩
        obtain ⟨Si, hSi⟩ : ∃ Si, strOf r'.wr = Si := ⟨_, rfl⟩
        have CVO : Aside (∀ W, Keeps Nowhere w8 W → (convert 29 9 (.slice oa6 rd6 oc6)).run Tryd.prog W = .ok (.string So) W) := ⟨fun W hk => by rw [← hSo]; exact rd_conv (J8.it.quiet hk).o.rd⟩
        have CVI : Aside (∀ W, Keeps Nowhere w8 W → (convert 29 9 (.slice ia6 wl6 ic6)).run Tryd.prog W = .ok (.string Si) W) := ⟨fun W hk => by rw [← hSi]; exact rd_conv (J8.it.quiet hk).i.rd⟩
        have hT7 : T6 ≤ 70368744177664 := by have := HT6.it.1; omega
        have ADD : ∀ W, (Op.stringOp .add So Sr).run Tryd.prog W = .ok (.string Si) W := fun W => by
          rw [run_string_add_sum (P := Tryd.prog) W So Sr (by rw [← hSo, ← hSr, strOf_size, strOf_size, List.length_take, Rc.rest_len]; have := OK6.it.len; omega), ← hSo, ← hSr, strOf_append, ← hSi]
          unfold Rc.rest
          rw [List.take_append_drop]
        have SC : Aside (∀ W, Aside (Keeps Nowhere w8 W) → (W.cell? ⟨pb, 0, none⟩ = some (.int .i64 wl6) ∧ W.cell? ⟨pb, 1, none⟩ = some (.int .i64 rd6) ∧ W.cell? ⟨pb, 2, none⟩ = some (.bool r'.cl) ∧ W.cell? ⟨pb, 3, none⟩ = some (.bool r'.en) ∧ (convert 29 9 (.slice oa6 rd6 oc6)).run Tryd.prog W = .ok (.string So) W ∧ (convert 29 9 (.slice ia6 wl6 ic6)).run Tryd.prog W = .ok (.string Si) W)) := ⟨fun W hk => by
          have h := C8.it.later hk.it (fun x => x)
          exact ⟨by rw [h.cell]; rfl, by rw [h.cell]; rfl, by rw [h.cell]; rfl, by rw [h.cell]; rfl, CVO.it W hk.it, CVI.it W hk.it⟩⟩
        have RST : Aside (∀ W, Aside (Keeps Nowhere w8 W) → Calls Tryd.prog 22 #[ptr p, .int .i64 key] W fun e w' => ∃ q n c, e = .returned (.slice q n c) ∧ (convert 29 9 (.slice q n c)).run Tryd.prog w' = .ok (.string Sr) w' ∧ Aside (Keeps Nowhere w8 w')) := ⟨fun W hk => by
          refine (restH_at (J8.it.quiet hk.it).t HK.it hT7).mono ?_
          rintro e w' ⟨q, c, rfl, R, K⟩
          refine ⟨q, _, c, rfl, ?_, ⟨hk.it.trans K.it⟩⟩
          rw [HG6.it] at R ⊢
          rw [← hSr]
          exact rd_conv (OwnB.rd (B := W.heap.size) R.it)⟩
        have KD : Aside (Keeps Nowhere w8 w8.drew) := ⟨(Keeps.refl _ _).drew⟩
        have HF7 := HF6.it
        unfold Rc.Fin at HF7
        rw [HW6.it.1, HW6.it.2] at HF7
        clear hSo hSr hSi CVO CVI x0 x1 x2 x3
        obtain ⟨cl', hcl'⟩ : ∃ cl', r'.cl = cl' := ⟨_, rfl⟩
        obtain ⟨en', hen'⟩ : ∃ en', r'.en = en' := ⟨_, rfl⟩
        rw [hcl', hen'] at HF7 SC pn ⊢
        have HCE := Aside.mk (And.intro hcl' hen')
        have fin : Aside (∀ W, Keeps Nowhere w8 W → Jn A w p key ((j + 1) * 1048576) (j + 1) (.slice ia6 wl6 ic6) (.slice oa6 rd6 oc6) r' W) := ⟨fun W hk => ⟨own6, T6, L6, HT6.it.1, HT6.it.2, HG6.it, HF6.it, J8.it.quiet hk⟩⟩
        clear hcl' hen' HF6 HG6 HW6 J8 J6 C8 K8
        cases en' with
        | true =>
          obtain ⟨rfl, rfl⟩ := HF7 rfl
          go_cut [147] (fun t wx => t = .bool false ∧ Aside (Keeps Nowhere w8 wx))
          case first =>
            go_region_held_law (fun W => W.cell? ⟨pb, 0, none⟩ = some (.int .i64 rd6) ∧ W.cell? ⟨pb, 1, none⟩ = some (.int .i64 rd6) ∧ W.cell? ⟨pb, 2, none⟩ = some (.bool true) ∧ W.cell? ⟨pb, 3, none⟩ = some (.bool true) ∧ (convert 29 9 (.slice oa6 rd6 oc6)).run Tryd.prog W = .ok (.string So) W ∧ (convert 29 9 (.slice ia6 rd6 ic6)).run Tryd.prog W = .ok (.string Si) W) (with_reducible exact SC.it _ (by with_reducible assumption)) (first
              | (go_at_call 22; refine (RST.it _ (by with_reducible assumption)).mono ?_; rintro e w9 ⟨q9, n9, c9, rfl, CV9, K9⟩)
              | fail)
            go_wp2_with fail
            go_meet
            exact ⟨rfl, K9⟩
          case rest =>
            obtain ⟨rfl, K9⟩ := hcut
            go_wp2_with fail
            go_roundw
            case rel => exact ⟨j + 1, r', by go_num, by omega, by rw [HCE.it.1], by rw [HCE.it.2], ⟨fin.it _ K9.it⟩⟩
            case measure => simp [natOfT]; omega
        | false =>
          clear HF7
          go_cut [147] (fun t wx => t = .bool false ∧ Aside (Keeps Nowhere w8 wx))
          case first =>
            refine wp_region_noPanic ?_
            refine wp_region_held_drew (S := fun W => W.cell? ⟨pb, 0, none⟩ = some (.int .i64 wl6) ∧ W.cell? ⟨pb, 1, none⟩ = some (.int .i64 rd6) ∧ W.cell? ⟨pb, 2, none⟩ = some (.bool cl') ∧ W.cell? ⟨pb, 3, none⟩ = some (.bool false) ∧ (convert 29 9 (.slice oa6 rd6 oc6)).run Tryd.prog W = .ok (.string So) W ∧ (convert 29 9 (.slice ia6 wl6 ic6)).run Tryd.prog W = .ok (.string Si) W) (by kernel_rfl) (SC.it _ KD) (fun hHeld => ?_)
            refine any_take 0 113 (.agg #[.int .i64 wl6, .int .i64 rd6, .bool cl', .bool false]) rfl rfl (by kernel_rfl) (by kernel_rfl) (by kernel_rfl) (fun _ _ _ h => h) (Or.inl ⟨by rfl, by intro w hSw; obtain ⟨x0, x1, x2, x3, x4, x5⟩ := hSw; go_simp⟩) hHeld ?_
            simp only [Act.put, List.setIfInBounds_toArray, List.set_cons_zero, List.set_cons_succ]
            refine any_take 1 114 (.slice ia6 wl6 ic6) rfl rfl (by kernel_rfl) (by kernel_rfl) (by kernel_rfl) (fun _ _ _ h => h) (Or.inl ⟨by rfl, by intro w hSw; go_simp⟩) hHeld ?_
            simp only [Act.put, List.setIfInBounds_toArray, List.set_cons_zero, List.set_cons_succ]
            refine any_take 2 115 (.int .i64 wl6) rfl rfl (by kernel_rfl) (by kernel_rfl) (by kernel_rfl) (fun _ _ _ h => h) (Or.inl ⟨by rfl, by intro w hSw; go_simp⟩) hHeld ?_
            simp only [Act.put, List.setIfInBounds_toArray, List.set_cons_zero, List.set_cons_succ]
            refine any_take 3 116 (.slice oa6 rd6 oc6) rfl rfl (by kernel_rfl) (by kernel_rfl) (by kernel_rfl) (fun _ _ _ h => h) (Or.inl ⟨by rfl, by intro w hSw; go_simp⟩) hHeld ?_
            simp only [Act.put, List.setIfInBounds_toArray, List.set_cons_zero, List.set_cons_succ]
            refine any_take 4 117 (.int .i64 rd6) rfl rfl (by kernel_rfl) (by kernel_rfl) (by kernel_rfl) (fun _ _ _ h => h) (Or.inl ⟨by rfl, by intro w hSw; go_simp⟩) hHeld ?_
            simp only [Act.put, List.setIfInBounds_toArray, List.set_cons_zero, List.set_cons_succ]
            refine any_take 5 118 (.bool cl') rfl rfl (by kernel_rfl) (by kernel_rfl) (by kernel_rfl) (fun _ _ _ h => h) (Or.inl ⟨by rfl, by intro w hSw; go_simp⟩) hHeld ?_
            simp only [Act.put, List.setIfInBounds_toArray, List.set_cons_zero, List.set_cons_succ]
            refine any_take 6 119 (.bool false) rfl rfl (by kernel_rfl) (by kernel_rfl) (by kernel_rfl) (fun _ _ _ h => h) (Or.inl ⟨by rfl, by intro w hSw; go_simp⟩) hHeld ?_
            simp only [Act.put, List.setIfInBounds_toArray, List.set_cons_zero, List.set_cons_succ]
            refine any_take 7 120 (.agg #[.int .i64 wl6, .int .i64 rd6, .bool cl', .bool false]) rfl rfl (by kernel_rfl) (by kernel_rfl) (by kernel_rfl) (fun _ _ _ h => h) (Or.inl ⟨by rfl, by intro w hSw; go_simp⟩) hHeld ?_
            simp only [Act.put, List.setIfInBounds_toArray, List.set_cons_zero, List.set_cons_succ]
            refine any_take 8 121 (.bool false) rfl rfl (by kernel_rfl) (by kernel_rfl) (by kernel_rfl) (fun _ _ _ h => h) (Or.inl ⟨by rfl, by intro w hSw; go_simp⟩) hHeld ?_
            simp only [Act.put, List.setIfInBounds_toArray, List.set_cons_zero, List.set_cons_succ]
            refine any_take 9 122 (.bool false) rfl rfl (by kernel_rfl) (by kernel_rfl) (by kernel_rfl) (fun _ _ _ h => h) (Or.inl ⟨by rfl, by intro w hSw; go_simp⟩) hHeld ?_
            simp only [Act.put, List.setIfInBounds_toArray, List.set_cons_zero, List.set_cons_succ]
            refine any_take 10 123 (.slice oa6 rd6 oc6) rfl rfl (by kernel_rfl) (by kernel_rfl) (by kernel_rfl) (fun _ _ _ h => h) (Or.inl ⟨by rfl, by intro w hSw; go_simp⟩) hHeld ?_
            simp only [Act.put, List.setIfInBounds_toArray, List.set_cons_zero, List.set_cons_succ]
            refine any_take 11 124 (.string So) rfl rfl (by kernel_rfl) (by kernel_rfl) (by kernel_rfl) (fun _ _ _ h => h) (Or.inl ⟨by rfl, by intro w hSw; obtain ⟨x0, x1, x2, x3, x4, x5⟩ := hSw; go_simp⟩) hHeld ?_
            simp only [Act.put, List.setIfInBounds_toArray, List.set_cons_zero, List.set_cons_succ]
            refine any_take 12 125 (ptr p) rfl rfl (by kernel_rfl) (by kernel_rfl) (by kernel_rfl) (fun _ _ _ h => h) (Or.inl ⟨by rfl, by intro w hSw; go_simp⟩) hHeld ?_
            simp only [Act.put, List.setIfInBounds_toArray, List.set_cons_zero, List.set_cons_succ]
            refine any_take 13 126 (.int .i64 key) rfl rfl (by kernel_rfl) (by kernel_rfl) (by kernel_rfl) (fun _ _ _ h => h) (Or.inl ⟨by rfl, by intro w hSw; go_simp⟩) hHeld ?_
            simp only [Act.put, List.setIfInBounds_toArray, List.set_cons_zero, List.set_cons_succ]
            refine any_take 17 130 (.slice ia6 wl6 ic6) rfl rfl (by kernel_rfl) (by kernel_rfl) (by kernel_rfl) (fun _ _ _ h => h) (Or.inl ⟨by rfl, by intro w hSw; go_simp⟩) hHeld ?_
            simp only [Act.put, List.setIfInBounds_toArray, List.set_cons_zero, List.set_cons_succ]
            refine any_take 18 131 (.string Si) rfl rfl (by kernel_rfl) (by kernel_rfl) (by kernel_rfl) (fun _ _ _ h => h) (Or.inl ⟨by rfl, by intro w hSw; obtain ⟨x0, x1, x2, x3, x4, x5⟩ := hSw; go_simp⟩) hHeld ?_
            simp only [Act.put, List.setIfInBounds_toArray, List.set_cons_zero, List.set_cons_succ]
            refine any_one 14 (by kernel_rfl) rfl ?_
            intro K' hK'
            go_simp
            refine (RST.it _ KD).mono ?_
            rintro e w9 ⟨q9, n9, c9, rfl, CV9, K9⟩
            go_simp
            refine hK'.out _ _ (SC.it _ K9) (fun hHeld2 => ?_)
            clear hK' K' hHeld
            have hHeld := hHeld2
            clear hHeld2
            refine any_one 15 (by kernel_rfl) rfl ?_
            intro K' hK'
            go_simp
            refine hK'.out _ _ (SC.it _ K9) (fun hHeld2 => ?_)
            clear hK' K' hHeld
            have hHeld := hHeld2
            clear hHeld2
            refine any_take 16 129 (.string Si) rfl rfl (by kernel_rfl) (by kernel_rfl) (by kernel_rfl) (fun _ _ _ h => h) (Or.inl ⟨by rfl, by intro w hSw; go_simp⟩) hHeld ?_
            simp only [Act.put, List.setIfInBounds_toArray, List.set_cons_zero, List.set_cons_succ]
            refine any_take 19 132 (.bool false) rfl rfl (by kernel_rfl) (by kernel_rfl) (by kernel_rfl) (fun _ _ _ h => h) (Or.inl ⟨by rfl, by intro w hSw; go_simp⟩) hHeld ?_
            simp only [Act.put, List.setIfInBounds_toArray, List.set_cons_zero, List.set_cons_succ]
            refine any_take 20 133 (.bool false) rfl rfl (by kernel_rfl) (by kernel_rfl) (by kernel_rfl) (fun _ _ _ h => h) (Or.inl ⟨by rfl, by intro w hSw; go_simp⟩) hHeld ?_
            simp only [Act.put, List.setIfInBounds_toArray, List.set_cons_zero, List.set_cons_succ]
            refine any_take 21 134 (.bool false) rfl rfl (by kernel_rfl) (by kernel_rfl) (by kernel_rfl) (fun _ _ _ h => h) (Or.inl ⟨by rfl, by intro w hSw; go_simp⟩) hHeld ?_
            simp only [Act.put, List.setIfInBounds_toArray, List.set_cons_zero, List.set_cons_succ]
            refine any_take 22 135 (.bool false) rfl rfl (by kernel_rfl) (by kernel_rfl) (by kernel_rfl) (fun _ _ _ h => h) (Or.inl ⟨by rfl, by intro w hSw; go_simp⟩) hHeld ?_
            simp only [Act.put, List.setIfInBounds_toArray, List.set_cons_zero, List.set_cons_succ]
            refine any_take 23 136 (.bool false) rfl rfl (by kernel_rfl) (by kernel_rfl) (by kernel_rfl) (fun _ _ _ h => h) (Or.inl ⟨by rfl, by intro w hSw; go_simp⟩) hHeld ?_
            simp only [Act.put, List.setIfInBounds_toArray, List.set_cons_zero, List.set_cons_succ]
            refine any_take 24 137 (undef) rfl rfl (by kernel_rfl) (by kernel_rfl) (by kernel_rfl) (fun _ _ _ h => h) (Or.inr ⟨by rfl, rfl⟩) hHeld ?_
            simp only [Act.put, List.setIfInBounds_toArray, List.set_cons_zero, List.set_cons_succ]
            refine any_take 25 138 (undef) rfl rfl (by kernel_rfl) (by kernel_rfl) (by kernel_rfl) (fun _ _ _ h => h) (Or.inr ⟨by rfl, rfl⟩) hHeld ?_
            simp only [Act.put, List.setIfInBounds_toArray, List.set_cons_zero, List.set_cons_succ]
            refine any_take 26 139 (undef) rfl rfl (by kernel_rfl) (by kernel_rfl) (by kernel_rfl) (fun _ _ _ h => h) (Or.inr ⟨by rfl, rfl⟩) hHeld ?_
            simp only [Act.put, List.setIfInBounds_toArray, List.set_cons_zero, List.set_cons_succ]
            refine any_take 27 140 (undef) rfl rfl (by kernel_rfl) (by kernel_rfl) (by kernel_rfl) (fun _ _ _ h => h) (Or.inr ⟨by rfl, rfl⟩) hHeld ?_
            simp only [Act.put, List.setIfInBounds_toArray, List.set_cons_zero, List.set_cons_succ]
            refine any_take 28 141 (undef) rfl rfl (by kernel_rfl) (by kernel_rfl) (by kernel_rfl) (fun _ _ _ h => h) (Or.inr ⟨by rfl, rfl⟩) hHeld ?_
            simp only [Act.put, List.setIfInBounds_toArray, List.set_cons_zero, List.set_cons_succ]
            refine any_take 29 142 (undef) rfl rfl (by kernel_rfl) (by kernel_rfl) (by kernel_rfl) (fun _ _ _ h => h) (Or.inr ⟨by rfl, rfl⟩) hHeld ?_
            simp only [Act.put, List.setIfInBounds_toArray, List.set_cons_zero, List.set_cons_succ]
            refine any_take 30 143 (undef) rfl rfl (by kernel_rfl) (by kernel_rfl) (by kernel_rfl) (fun _ _ _ h => h) (Or.inr ⟨by rfl, rfl⟩) hHeld ?_
            simp only [Act.put, List.setIfInBounds_toArray, List.set_cons_zero, List.set_cons_succ]
            refine any_take 31 144 (undef) rfl rfl (by kernel_rfl) (by kernel_rfl) (by kernel_rfl) (fun _ _ _ h => h) (Or.inr ⟨by rfl, rfl⟩) hHeld ?_
            simp only [Act.put, List.setIfInBounds_toArray, List.set_cons_zero, List.set_cons_succ]
            refine any_take 32 145 (undef) rfl rfl (by kernel_rfl) (by kernel_rfl) (by kernel_rfl) (fun _ _ _ h => h) (Or.inr ⟨by rfl, rfl⟩) hHeld ?_
            simp only [Act.put, List.setIfInBounds_toArray, List.set_cons_zero, List.set_cons_succ]
            refine any_take 33 146 (.bool false) rfl rfl (by kernel_rfl) (by kernel_rfl) (by kernel_rfl) (fun _ _ _ h => h) (Or.inl ⟨by rfl, by intro w hSw; go_simp⟩) hHeld ?_
            simp only [Act.put, List.setIfInBounds_toArray, List.set_cons_zero, List.set_cons_succ]
            refine any_take 34 147 (.bool false) rfl rfl (by kernel_rfl) (by kernel_rfl) (by kernel_rfl) (fun _ _ _ h => h) (Or.inl ⟨by rfl, by intro w hSw; go_simp⟩) hHeld ?_
            simp only [Act.put, List.setIfInBounds_toArray, List.set_cons_zero, List.set_cons_succ]
            clear hHeld
            refine wpAnyH_done (by kernel_rfl) ?_ _
            refine NoPanic.normal ?_
            go_wp2_with fail
            go_meet
            exact ⟨rfl, K9⟩
          case rest =>
            obtain ⟨rfl, K9⟩ := hcut
            go_wp2_with fail
            go_roundw
            case rel => exact ⟨j + 1, r', by go_num, by omega, by rw [HCE.it.1], by rw [HCE.it.2], ⟨fin.it _ K9.it⟩⟩
            case measure => simp [natOfT]; omega
end Go.Proofs.YteojdangidnnkaaDoor
