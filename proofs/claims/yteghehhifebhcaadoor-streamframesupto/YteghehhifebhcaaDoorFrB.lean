/-
  StreamFrames, walked.
-/
import Derived.Test.YteghehhifebhcaaDoorFrA
import Derived.Test.YteghehhifebhcaaDoorOpenT
import Derived.Deep.RegionHeld3
namespace Go.Proofs.YteghehhifebhcaaDoor
open Go.RowKit

theorem Rd.pre {w : World} {p : Option Addr} {l c n : Nat} {ns : List Int} (h : Rd w (.slice p l c) ns) (hn : n ≤ ns.length) : Rd w (.slice p n c) (ns.take n) := by
  obtain ⟨⟨a, c', e, hl, hc⟩, hnil⟩ := h
  injection e with e1 e2 e3
  subst e1 e2 e3
  refine ⟨⟨p, c, by rw [bv_length, List.length_take, Nat.min_eq_left hn], by rw [bv_length] at hl ⊢; rw [List.length_take]; omega, fun j u hj => ?_⟩, fun l' c' e => ?_⟩
  · refine hc j u ?_
    rw [bv_take] at hj
    rw [List.getElem?_take] at hj
    split at hj
    · exact hj
    · cases hj
  · injection e with e1 _ e3
    subst e1 e3
    exact hnil _ _ rfl
section
variable {A : Nat → Addr} {w0 : World}
theorem view_field4 (a0 a1 a2 a3 a4 a5 a6 a7 a8 a9 a10 : Value) (w : World) : Sem.run Tryd.prog (Instr.field 70 (.agg #[a0, a1, a2, a3, a4, a5, a6, a7, a8, a9, a10]) 4) w = .ok a4 w := by kernel_rfl
theorem op10_read {sa : Option Addr} {M : Nat} {zs : List OpV10} (hM : M = zs.length)
    (hat : ∀ i z, zs[i]? = some z → ∃ b o cs, sa = some ⟨b, o, none⟩ ∧ Op10Ok w0 z cs ∧ cs.length = 14 ∧ ∀ j, j < 14 → w0.cell? ⟨b, o + i * 14 + j, none⟩ = cs[j]?) (k : Nat) (hk : k < M) :
    ∃ z sb so, Op10Ok w0 z z.cells ∧ sa = some ⟨sb, so, none⟩ ∧ ∀ own w, Gs A w0 own w → ∀ j v, z.cells[j]? = some v → w.cell? ⟨sb, so + k * 14 + j, none⟩ = some v := by
  subst hM
  obtain ⟨sb, so, cs, rfl, hok, hl, hc⟩ := hat k zs[k] (List.getElem?_eq_getElem hk)
  have e := hok.1
  subst e
  refine ⟨_, sb, so, hok, rfl, fun own w g j v hj => g.g.cell rfl ?_⟩
  rw [← hj]
  refine hc j ?_
  have := (List.getElem?_eq_some_iff.1 hj).1
  rwa [hl] at this
end
set_option maxHeartbeats 40000000 in
set_option maxRecDepth 100000 in
theorem streamFrames_walkU {A : Nat → Addr} (cv : Value) (z : Cf) (ov : Value) (zs : List OpV10) (w : World) (hs : St9 A w) (hc : CfgArg w cv z) (hz : Ops10ArgU w ov zs) :
    Calls Tryd.prog 4 #[cv, ov] w fun e w' => e = .returned (.bool true) ∧ Below w.heap.size w w' := by
  obtain ⟨rfl, hcz⟩ := hc
  obtain ⟨hlen, sa, sc, rfl, hsc, hmx, hat⟩ := hz
  obtain ⟨M, hM⟩ : ∃ M, M = zs.length := ⟨_, rfl⟩
  rw [← hM] at hlen hsc ⊢
  have HAT := Aside.mk hat
  have HM := Aside.mk hM
  have hM1 : (M : Int) ≤ 1048576 := by omega
  clear hat hM hsc hmx
  obtain ⟨w1, hw1⟩ : ∃ w1, w1 = w.alloc (.cells #[.int .i64 z.win, .int .i64 z.stage, .int .i64 z.frame, .int .i64 z.c3, .int .i64 z.c4, .int .i64 z.c5, .int .i64 z.c6, .int .i64 z.c7] 23) := ⟨_, rfl⟩
  have K1 : Keeps Nowhere w w1 := by rw [hw1]; exact (Keeps.refl _ _).alloc _
  have C1 : Aside (CellsO (give (fun _ => 0) w.heap.size 11) 11 w1 w.heap.size 23 z.cells) := ⟨by rw [hw1]; exact Cells.new w _ _, give_new (Nat.le_refl _)⟩
  have G1 : Aside (Gs A w (give (fun _ => 0) w.heap.size 11) w1) := ⟨(Gs.start hs).sn (I := fun _ => False) (Sn.quiet K1 11) (fun x => x)⟩
  have AW := Aside.mk (awake10 (G1.it.st))
  generalize give (fun _ => 0) w.heap.size 11 = own1 at C1 G1
  clear hs
  unfold Cf.val
  obtain ⟨cb, hcb⟩ : ∃ cb, Aside (cb = w.heap.size) := ⟨_, ⟨rfl⟩⟩
  rw [← hcb.it] at C1
  have HG := Aside.mk (Bool.eq_false_or_eq_true z.good)
  go_enter Tryd.func4, Tryd.ntmps4
  go_upto_region 1 with fail
  rw [← hw1, ← hcb.it]
  clear hw1
  go_upto_region 3 with (first | (go_at_call 7; refine AW.it.mono ?_; rintro e w2 ⟨rfl, K2⟩) | fail)
  have C2 := Aside.mk (C1.it.quiet K2.it)
  have G2 := Aside.mk (G1.it.quiet K2.it)
  have c0 : w2.cell? ⟨cb, 0, none⟩ = some (.int .i64 z.win) := C2.it.1.cell 0
  have c1 : w2.cell? ⟨cb, 1, none⟩ = some (.int .i64 z.stage) := C2.it.1.cell 1
  have c2 : w2.cell? ⟨cb, 2, none⟩ = some (.int .i64 z.frame) := C2.it.1.cell 2
  have c3 : w2.cell? ⟨cb, 3, none⟩ = some (.int .i64 z.c3) := C2.it.1.cell 3
  have c4 : w2.cell? ⟨cb, 4, none⟩ = some (.int .i64 z.c4) := C2.it.1.cell 4
  have c5 : w2.cell? ⟨cb, 5, none⟩ = some (.int .i64 z.c5) := C2.it.1.cell 5
  have c6 : w2.cell? ⟨cb, 6, none⟩ = some (.int .i64 z.c6) := C2.it.1.cell 6
  have c7 : w2.cell? ⟨cb, 7, none⟩ = some (.int .i64 z.c7) := C2.it.1.cell 7
  clear AW C1 G1 K2
  rcases HG.it with hg | hg
  · clear HG
    have NW := Aside.mk (newS_ok (A := A) (w := w2) z 9 true (by decide) (by decide) hg G2.it.st own1 1)
    unfold Cf.val at NW
    go_upto_region 8 with (first | (go_at_call 9; refine NW.it.mono ?_; rintro e w3 ⟨p, own3, rfl, X3⟩) | fail)
    clear NW c0 c1 c2 c3 c4 c5 c6 c7
    have C3 := Aside.mk (C2.it.sn X3.it.2.2 (fun x => x))
    obtain ⟨⟨g1, g2⟩, ⟨g3, g4⟩, g5, g6⟩ := good_iff z hg
    have S3 : Aside (Sf A w cb p z 0 [] (Dm.new 9 z.win.toNat z.stage.toNat z.frame true) (.slice none 0 0) [] (.slice none 0 0) [] own3 w3) :=
      ⟨X3.it.1, G2.it.sn X3.it.2.2 (fun x => x), C3.it, .inl rfl, RowB.nil _ _ _, RowB.nil _ _ _⟩
    have I3 : Aside (If z 0 (Dm.new 9 z.win.toNat z.stage.toNat z.frame true) [] []) := ⟨rfl, rfl, rfl, rfl, by show ((z.win.toNat : Nat) : Int) = z.win; omega, rfl, by show z.stage.toNat ≤ 1048576; omega, Nat.zero_le _⟩
    have HC : Aside (((Dm.new 9 z.win.toNat z.stage.toNat z.frame true).credit) = z.win) := ⟨by show ((z.win.toNat : Nat) : Int) = z.win; omega⟩
    have c0 : w3.cell? ⟨cb, 0, none⟩ = some (.int .i64 z.win) := C3.it.1.cell 0
    clear C2 G2 X3 C3 g1 g2 g3 g4 g5 g6
    go_upto_region 10 with fail
    go_loopw [7, 8, 9, 10, 11, 12] (fun wv bo cl la cr i wr => ∃ (k ob : Nat) (own : Nat → Nat) (d : Dm) (wrote bore : List Int) (wa : Option Addr) (wl wk : Nat) (ba : Option Addr) (bl bc : Nat) (op : List Value), wv = .slice wa wl wk ∧ bo = .slice ba bl bc ∧ cl = .bool d.closing ∧ la = .bool d.last ∧ cr = .int .i64 d.credit ∧ i = .int .i64 k ∧ k ≤ M ∧ Aside (If z k d wrote bore) ∧ Aside (Sf A w cb p z ob op d (.slice wa wl wk) wrote (.slice ba bl bc) bore own wr)) (fun _ _ _ _ _ i _ => M - (intOf i).toNat)
    case atStart => exact ⟨0, 0, own3, _, [], [], _, _, _, _, _, _, [], rfl, rfl, rfl, rfl, by rw [HC.it], rfl, Nat.zero_le _, I3, S3⟩
    case round =>
      obtain ⟨k, ob, own, d, wrote, bore, wa, wl, wk, ba, bl, bc, op, rfl, rfl, rfl, rfl, rfl, rfl, hk, HI, HP⟩ := hrel
      clear S3 I3 HC c0
      rcases Nat.eq_or_lt_of_le hk with rfl | hlt
      · go_wp2_with fail
        go_ret
        exact ⟨rfl, HP.it.g.g.bel⟩
      · obtain ⟨o, sb, so, hok, rfl, hrd⟩ := op10_read (A := A) HM.it HAT.it k hlt
        have HR := Aside.mk (hrd _ _ HP.it.g)
        obtain ⟨kind, ox, on, osl, ons, odl, ofl, ⟨q0, q1, q2, q3, q4, q5, q6, q7⟩⟩ := o
        obtain ⟨-, hx, hn, hdl, -, hRD, hby, hol⟩ := hok
        simp only at hx hn hdl hRD hby hol
        obtain ⟨oa, oc, hsl⟩ := hRD.shape
        obtain ⟨N, hN⟩ : ∃ N, N = ons.length := ⟨_, rfl⟩
        rw [← hN] at hsl hol
        subst hsl
        have HN := Aside.mk hN
        have RD := Aside.mk hRD
        have HO := Aside.mk hol
        have r0 := HR.it 0 _ rfl
        have r1 := HR.it 1 _ rfl
        have r2 := HR.it 2 _ rfl
        have r3 := HR.it 3 _ rfl
        have r4 := HR.it 4 _ rfl
        have r5 := HR.it 5 _ rfl
        have r6 := HR.it 6 _ rfl
        have r7 := HR.it 7 _ rfl
        have r8 := HR.it 8 _ rfl
        have r9 := HR.it 9 _ rfl
        have r10 := HR.it 10 _ rfl
        have r11 := HR.it 11 _ rfl
        have r12 := HR.it 12 _ rfl
        have r13 := HR.it 13 _ rfl
        simp only [Nat.add_zero] at r0
        have i2 : (k : Int) < M := by omega
        have i3 : (0 : Int) ≤ k := by omega
        have i4 : (k : Int) ≤ 9223372036854775806 := by omega
        clear hN hRD hol hrd hx hn
        go_upto_region 13 with fail
        obtain ⟨W1, hW1⟩ : ∃ W1, W1 = wr.alloc (.cells #[.int .i64 kind, .int .i64 ox, .int .i64 on, .slice oa N oc, .int .u32 odl, .bool ofl, .int .i64 q0, .int .i64 q1, .int .i64 q2, .int .i64 q3, .int .i64 q4, .int .i64 q5, .int .i64 q6, .int .i64 q7] 56) := ⟨_, rfl⟩
        obtain ⟨ownA, X1⟩ : ∃ ownA, Aside (Sf A w cb p z wr.heap.size [.int .i64 kind, .int .i64 ox, .int .i64 on, .slice oa N oc, .int .u32 odl, .bool ofl, .int .i64 q0, .int .i64 q1, .int .i64 q2, .int .i64 q3, .int .i64 q4, .int .i64 q5, .int .i64 q6, .int .i64 q7] d (.slice wa wl wk) wrote (.slice ba bl bc) bore ownA W1) := ⟨_, by rw [hW1]; exact Sf.box HP _⟩
        rw [← hW1]
        clear hW1 HP HR r0 r1 r2 r3 r4 r5 r6 r7 r8 r9 r10 r11 r12 r13
        generalize wr.heap.size = b at X1 ⊢
        have b0 := Sf.opc X1 0 _ rfl
        have b3 := Sf.opc X1 3 _ rfl
        have b4 := Sf.opc X1 4 _ rfl
        have hk' : k ≤ M := by omega
        by_cases h3 : kind = 3
        case' pos =>
          subst h3
          have CP := Aside.mk (copied10 ownA 13 oa N oc ons HN.it.symm (RD.it.later X1.it.g.g.bel) (by have := HO.it; omega))
          go_upto_region 25 with fail
          go_upto_region 26 with (first
            | (go_at_call 18; refine CP.it.mono ?_; rintro e w3 ⟨q3', c3', rfl, Y3⟩; have X3 := Sf.fresh X1 Y3.it.2 13; have WR := Aside.mk (write_at X3.it.st X3.it.g.st.s (.slice q3' N c3') ons (copied_reads (I := Five 1) Y3.it.1 (by unfold Five; omega)) (by have := HO.it; have := HN.it; omega)))
            | (go_at_call 17; refine WR.it.mono ?_; rintro e w4 ⟨v4, rfl, hv4, Y4⟩)
            | fail)
          obtain ⟨ownB, X4⟩ := Sf.step X3 Y4.it
          have I4 := Aside.mk (HI.it.write ons)
          have hm := wrN_le d ons
          have hcl : Aside ((d.wrD ons).closing = d.closing ∧ (d.wrD ons).last = d.last ∧ (d.wrD ons).credit = d.credit) := ⟨by unfold Dm.wrD; split <;> exact ⟨rfl, rfl, rfl⟩⟩
          have sg := HI.it.sg
          generalize d.wrD ons = d2 at X4 I4 hcl
          generalize d.wrN ons = m at I4 hm ⊢
          clear CP WR X3 Y3 Y4 b0 b3 b4 X1
          have b3 := Sf.opc X4 3 _ rfl
          have hmN : (m : Int) ≤ N := by have := HN.it; omega
          have hm0 : (0 : Int) ≤ m := by omega
          have hmN' : ¬ (N : Int) < m := by omega
          have hm0' : ¬ (m : Int) < 0 := by omega
          have hNc : N ≤ oc := by
            obtain ⟨⟨_, _, e, h, _⟩, _⟩ := RD.it
            injection e with _ e2 e3
            rw [← e3, bv_length, ← HN.it] at h
            exact h
          have hmc : (m : Int) ≤ oc := by omega
          have RX := Aside.mk ((Rd.pre RD.it (n := m) (by have := HN.it; omega)).later X4.it.g.g.bel)
          have OI := Aside.mk X4.it.wr.1
          have hIL : Aside (wrote.length + (ons.take m).length ≤ 140737488355328) := ⟨by
            have h1 := HI.it.len
            have h3 : k * 1048576 ≤ 1048576 * 1048576 := Nat.mul_le_mul_right _ (by omega)
            have h4 := hm.2
            rw [List.length_take]
            omega⟩
          clear hm sg
          go_upto_region 35 with (first | (at_builtin; refine wpList_appendO rfl (.tmp 145) (.tmp 149) rfl (.slice wa wl wk) (.slice oa m oc) wrote (ons.take m) OI.it RX.it hIL.it rfl (by first | rfl | simp [Act.eval]) ?_; intro q7' l7 c7' w7 o7 k7 b7) | fail)
          obtain ⟨ownC, X7⟩ := Sf.wApp X4 o7 k7 b7
          rw [← hcl.it.1, ← hcl.it.2.1, ← hcl.it.2.2]
          obtain ⟨opl, X9⟩ : ∃ opl, Aside (Sf A w cb p z b opl d2 (.slice q7' l7 c7') (wrote ++ ons.take m) (.slice ba bl bc) bore ownC w7) := ⟨_, X7⟩
          have I9 := I4
          clear hcl X7 X4 I4 OI RX hIL b3 o7 k7 b7 hmN hm0 hmN' hm0' hNc hmc HI hv4
          generalize wrote ++ ons.take m = wT at X9 I9
          generalize bore = bT at X9 I9
          generalize ba = ba9 at X9 ⊢
          generalize bl = bl9 at X9 ⊢
          generalize bc = bc9 at X9 ⊢
          generalize q7' = wa9 at X9 ⊢
          generalize l7 = wl9 at X9 ⊢
          generalize c7' = wc9 at X9 ⊢
          generalize w7 = w9 at X9 ⊢
          generalize d2 = d9 at X9 I9 ⊢
          have HCL : Aside (d9.closing = d9.closing) := ⟨rfl⟩
          have HLA : Aside (d9.last = d9.last) := ⟨rfl⟩
        case' neg =>
          by_cases h4 : kind = 4
          case' pos =>
            subst h4
            have CL := Aside.mk (close_at X1.it.st X1.it.g.st.s)
            go_upto_region 35 with (first | (go_at_call 19; refine CL.it.mono ?_; rintro e w7 ⟨v4, rfl, hv4, Y4⟩) | fail)
            obtain ⟨ownC, X7⟩ := Sf.step X1 Y4.it
            have I7 := Aside.mk (HI.it.close.up (Nat.le_succ k))
            have HC2 : Aside (d.clD.closing = true) := ⟨close_closing (z := z) (wrote := []) (bore := []) (.inr ⟨HI.it.dr, HI.it.cu⟩)⟩
            have hcl : Aside (d.clD.last = d.last ∧ d.clD.credit = d.credit) := ⟨by unfold Dm.clD; split <;> exact ⟨rfl, rfl⟩⟩
            rw [← hcl.it.1, ← hcl.it.2]
            obtain ⟨opl, X9⟩ : ∃ opl, Aside (Sf A w cb p z b opl d.clD (.slice wa wl wk) wrote (.slice ba bl bc) bore ownC w7) := ⟨_, X7⟩
            have I9 := I7
            clear hcl X7 X1 I7 b0 b3 b4 HI hv4 CL Y4
            generalize wrote = wT at X9 I9
            generalize bore = bT at X9 I9
            generalize ba = ba9 at X9 ⊢
            generalize bl = bl9 at X9 ⊢
            generalize bc = bc9 at X9 ⊢
            generalize wa = wa9 at X9 ⊢
            generalize wl = wl9 at X9 ⊢
            generalize wk = wc9 at X9 ⊢
            generalize w7 = w9 at X9 ⊢
            generalize d.clD = d9 at X9 I9 HC2 ⊢
            have HCL : Aside (d9.closing = true) := HC2
            have HLA : Aside (d9.last = d9.last) := ⟨rfl⟩
          case' neg =>
            by_cases h8 : kind = 8
            case' neg =>
              go_upto_region 14 with fail
              rcases (Bool.eq_false_or_eq_true d.ready).symm with hr | hr
              case' inl =>
                have FN := Aside.mk (frame_no X1.it.st X1.it.g.st.tab hr)
                unfold frameZ at FN
                go_wp2_with (first | (go_at_call 21; refine FN.it.mono ?_; rintro e w7 ⟨rfl, K7⟩) | fail)
                have X7 := Sf.quiet X1 (K7.it.alloc (.cells #[.int .u8 0, .int .u8 0, .int .u16 0, .int .u32 0, .int .u32 0, .slice none 0 0] 65))
                have I7 := Aside.mk (HI.it.up (Nat.le_succ k))
                go_roundw
                case rel => exact ⟨k + 1, b, _, d, wrote, bore, wa, wl, wk, ba, bl, bc, _, rfl, rfl, rfl, rfl, rfl, by go_num, by omega, I7, X7⟩
                case measure => (simp only [intOf]; omega)
              case' inr =>
                have FY := Aside.mk (frame_yes X1.it.st X1.it.g (Nat.le_refl 1) hr 14 (by unfold Five; omega) (by decide))
                have ok := X1.it.st.ok
                obtain ⟨kl1, kl2, kl3⟩ := Dm.frK_le d
                obtain ⟨ig, hgc, hgl, hgt⟩ := HI.it.frame hr
                have I7 := Aside.mk (ig.up (Nat.le_succ k))
                have fz := frK_zero ok hr
                have hfr := HI.it.fr
                have hcr := ok.cr1
                have hcr2 := ok.cr2
                have hw2 := ok.win2
                have hf1 := ok.frame1
                have hf2 := ok.frame2
                rw [ready_last hr]
                have hLL : Aside (d.frL = (d.closing && decide (wrote.length = (bore ++ d.staged.take d.frK).length))) := ⟨by
                  have e := congrArg List.length HI.it.eq
                  rw [List.length_append] at e
                  unfold Dm.frL
                  congr 1
                  rw [List.length_append, List.length_take]
                  by_cases h : d.staged.length ≤ d.frK
                  · rw [decide_eq_true h, decide_eq_true (by omega)]
                  · rw [decide_eq_false h, decide_eq_false (by omega)]⟩
                obtain ⟨K, hK⟩ : ∃ K, K = d.frK := ⟨_, rfl⟩
                rw [← hK] at FY kl1 kl2 kl3 hgc hLL I7 fz
                have hTL : Aside ((d.staged.take K).length = K) := ⟨by rw [List.length_take]; omega⟩
                have k1 : ¬ z.frame < (K : Int) := by omega
                have k2 : ¬ d.credit < (K : Int) := by omega
                have k3 : IntKind.i64.wrap ((K : Nat) : Int) = K := by rw [IntKind.wrap_i64]; omega
                have k4 : IntKind.i64.wrap (d.credit - K) = d.credit - K := by rw [IntKind.wrap_i64]; omega
                have fz' : Aside (K = 0 → d.frL = true) := ⟨fz⟩
                have HGC := Aside.mk hgc
                have HGL := Aside.mk hgl
                have HGT := Aside.mk hgt
                clear ok kl1 kl2 kl3 ig hgc hgl hgt fz hfr hcr hcr2 hw2 hf1 hf2 hK
                rcases (Bool.eq_false_or_eq_true d.frL).symm with hL | hL
                case' inl =>
                  have kn : ¬ ((K : Nat) : Int) = 0 := by
                    intro x
                    have := fz'.it (by omega)
                    rw [hL] at this
                    cases this
                  rw [hL] at FY
                  simp only [Bool.false_eq_true, if_false] at FY
                case' inr =>
                  rw [hL] at FY
                  simp only [if_true] at FY
                  have kn : True := trivial
                all_goals
                  have HL := Aside.mk hL
                  clear hL
                  go_upto_region 15 with (first | (go_at_call 21; refine FY.it.mono ?_; rintro e w5 ⟨sq, m5, rfl, hm5, Y5⟩; obtain rfl : m5 = K := (by rw [hm5.it, hTL.it])) | fail)
                  obtain ⟨own5, S5, R5, s5⟩ := Y5.it
                  have X5 := Sf.stepO X1 S5 s5
                  clear S5 s5 Y5 FY hm5
                  first
                    | (obtain ⟨W6, hW6⟩ : ∃ W6, W6 = w5.alloc (.cells #[.int .u8 0, .int .u8 0, .int .u16 0, .int .u32 d.id, .int .u32 m5, .slice sq m5 m5] 65) := ⟨_, rfl⟩; rw [← hW6]; obtain ⟨own6, X6, RX, f2, f4, f5, C6⟩ := Sf.framed X5 R5 W6 hW6)
                    | (obtain ⟨W6, hW6⟩ : ∃ W6, W6 = w5.alloc (.cells #[.int .u8 0, .int .u8 0, .int .u16 4, .int .u32 d.id, .int .u32 m5, .slice sq m5 m5] 65) := ⟨_, rfl⟩; rw [← hW6]; obtain ⟨own6, X6, RX, f2, f4, f5, C6⟩ := Sf.framed X5 R5 W6 hW6)
                  clear hW6 R5 X5 X1 b0 b3 b4
                  generalize w5.heap.size = q6 at f2 f4 f5 C6 ⊢
                  have g2 := (Sf.cfg X6).2
                  have OI := Aside.mk X6.it.bo.1
                  have hIL : Aside (bore.length + (d.staged.take m5).length ≤ 140737488355328) := ⟨by
                    have h0 := HI.it.eq
                    have h1 := HI.it.len
                    have h3 : k * 1048576 ≤ 1048576 * 1048576 := Nat.mul_le_mul_right _ (by omega)
                    rw [h0, List.length_append] at h1
                    rw [List.length_take]
                    omega⟩
                  go_upto_region 17 with fail
                  go_cut [105] from 37 to 202 (fun v wx => v = .bool false ∧ wx = W6)
                  case first =>
                    as_aux_lemma =>
                      by_cases kz : ((m5 : Nat) : Int) = 0
                      · first
                          | exact absurd kz kn
                          | (go_wp2
                             go_meet
                             case rel => exact ⟨by first | rfl | (simp only [Value.bool.injEq, Bool.or_eq_false_iff, decide_eq_false_iff_not]; omega), rfl⟩)
                      · go_wp2
                        go_meet
                        case rel => exact ⟨by first | rfl | (simp only [Value.bool.injEq, Bool.or_eq_false_iff, decide_eq_false_iff_not]; omega), rfl⟩
                  case' rest =>
                  obtain ⟨rfl, rfl⟩ := hcut
                  go_upto_region 22 with (first | (at_builtin; refine wpList_appendO rfl (.tmp 111) (.tmp 113) rfl (.slice ba bl bc) (.slice sq m5 m5) bore (d.staged.take m5) OI.it RX.it hIL.it rfl (by first | rfl | simp [Act.eval]) ?_; intro q7' l7 c7' w7 o7 k7 b7) | fail)
                  obtain ⟨ownC, X7⟩ := Sf.bApp X6 o7 k7 b7
                  have e7 : Aside (l7 = (bore ++ d.staged.take m5).length ∧ wl = wrote.length) := ⟨by
                    obtain ⟨_, _, h1⟩ := X7.it.wr.shape
                    obtain ⟨_, _, h2⟩ := X7.it.bo.shape
                    injection h1 with _ h1 _
                    injection h2 with _ h2 _
                    exact ⟨h2, h1⟩⟩
                  clear o7 k7 b7 OI RX hIL f2 f4 f5 g2 X6 C6
                  have hq : Aside ((d.closing && decide (l7 = wl)) = d.frL) := ⟨by
                    rw [hLL.it, e7.it.1, e7.it.2]
                    congr 1
                    exact decide_eq_decide.2 eq_comm⟩
                  rw [← HGC.it]
                  rcases (Bool.eq_false_or_eq_true d.closing).symm with hcl | hcl
                  case' inl =>
                    first
                      | (exfalso; have := hq.it; rw [hcl, HL.it] at this; cases this; done)
                      | (rw [hcl]; have HCL0 : Aside (d.frD.closing = false) := ⟨HGL.it.trans hcl⟩; have hcl' := Aside.mk hcl; clear hcl)
                  case' inr =>
                    rw [hcl]
                    have HCL0 : Aside (d.frD.closing = true) := ⟨HGL.it.trans hcl⟩
                    have hlw : decide (l7 = wl) = d.frL := by
                      have := hq.it
                      rw [hcl] at this
                      exact this
                    rw [HL.it] at hlw
                    have hcl' := Aside.mk hcl
                    clear hcl
                    first
                      | (have hne : ¬ (l7 : Int) = wl := (by have := of_decide_eq_false hlw; omega); clear hlw)
                      | (have hne : (l7 : Int) = wl := (by have := of_decide_eq_true hlw; omega); clear hlw)
                  all_goals
                    go_upto_region 35 with fail
                    try clear hne
                    have HCL1 := HCL0
                    have HLA1 : Aside (d.frD.last = d.frL) := HGT
                    rw [HL.it] at HLA1
                    obtain ⟨opl, X9⟩ : ∃ opl, Aside (Sf A w cb p z b opl d.frD (.slice wa wl wk) wrote (.slice q7' l7 c7') (bore ++ d.staged.take m5) ownC w7) := ⟨_, X7⟩
                    have I9 := I7
                    clear X7 I7 HI HGC HGL HGT hLL hTL fz' hq hcl' HCL0 kn k1 k2 k3 k4 e7 hr
                    generalize d.frD = d9 at X9 I9 HCL1 HLA1 ⊢
                    generalize bore ++ d.staged.take m5 = bT at X9 I9
                    generalize wrote = wT at X9 I9
                    generalize q7' = ba9 at X9 ⊢
                    generalize l7 = bl9 at X9 ⊢
                    generalize c7' = bc9 at X9 ⊢
                    generalize wa = wa9 at X9 ⊢
                    generalize wl = wl9 at X9 ⊢
                    generalize wk = wc9 at X9 ⊢
                    generalize w7 = w9 at X9 ⊢
                    have HCL := HCL1
                    have HLA := HLA1
            case' pos =>
              subst h8
              have GR := Aside.mk (grant_at10 X1.it.st X1.it.g (Nat.le_refl 1) odl hdl.1 false)
              obtain ⟨ig, hgc, hgl, hgt⟩ := HI.it.grant odl
              have I7 := Aside.mk (ig.up (Nat.le_succ k))
              have cwr : IntKind.i64.wrap odl = odl := by rw [IntKind.wrap_i64]; omega
              have c1 := X1.it.st.ok.cr1
              have c2 := X1.it.st.ok.cr2
              have c3 := X1.it.st.ok.win2
              have cws : IntKind.i64.wrap (d.credit + odl) = d.credit + odl := by rw [IntKind.wrap_i64]; omega
              go_upto_region 33 with fail
              by_cases hE : d.grE odl = 0
              case' pos =>
                rw [hE] at GR
                rcases (Bool.eq_false_or_eq_true d.last).symm with hl | hl
                case' inl =>
                  rw [if_pos ⟨hE, hl⟩] at hgc
                  rw [hl]
                  rw [hl] at hgt
                  go_upto_region 34 with (first | (go_at_call 20; refine GR.it.mono ?_; rintro e w7 ⟨v4, rfl, hv4, Y4⟩; obtain rfl := Coded.zero hv4) | fail)
                  obtain ⟨ownC, X7⟩ := Sf.step X1 Y4.it
                  have b4' := Sf.opc X7 4 _ rfl
                  have hgc' := Aside.mk hgc
                  have hgt' := Aside.mk hgt
                  have hgl' := Aside.mk hgl
                  clear hgc hgt hgl
                  go_upto_region 35 with fail
                  rw [← hgc'.it, ← hgl'.it]
                  have HLA : Aside ((d.grD odl false).last = false) := ⟨hgt'.it⟩
                  clear hgc' hgt' hgl' b4'
                case' inr =>
                  rw [if_neg (by rw [hl]; simp)] at hgc
                  rw [hl]
                  rw [hl] at hgt
                  go_upto_region 35 with (first | (go_at_call 20; refine GR.it.mono ?_; rintro e w7 ⟨v4, rfl, hv4, Y4⟩; obtain rfl := Coded.zero hv4) | fail)
                  obtain ⟨ownC, X7⟩ := Sf.step X1 Y4.it
                  rw [← hgc, ← hgl]
                  have HLA : Aside ((d.grD odl false).last = true) := ⟨hgt⟩
                  clear hgc hgt hgl
              case' neg =>
                rw [if_neg (fun x => hE x.1)] at hgc
                go_upto_region 35 with (first | (go_at_call 20; refine GR.it.mono ?_; rintro e w7 ⟨v4, rfl, hv4, Y4⟩; obtain ⟨a4, rfl⟩ := Coded.pos hv4 hE) | fail)
                obtain ⟨ownC, X7⟩ := Sf.step X1 Y4.it
                rw [← hgc, ← hgl, ← hgt]
                have HLA : Aside ((d.grD odl false).last = (d.grD odl false).last) := ⟨rfl⟩
                clear hgc hgt hgl
              all_goals
                obtain ⟨opl, X9⟩ : ∃ opl, Aside (Sf A w cb p z b opl (d.grD odl false) (.slice wa wl wk) wrote (.slice ba bl bc) bore ownC w7) := ⟨_, X7⟩
                have I9 := I7
                clear X7 X1 I7 b0 b3 b4 HI hv4 GR Y4 ig cws c1 c2 hE
                generalize wrote = wT at X9 I9
                generalize bore = bT at X9 I9
                generalize ba = ba9 at X9 ⊢
                generalize bl = bl9 at X9 ⊢
                generalize bc = bc9 at X9 ⊢
                generalize wa = wa9 at X9 ⊢
                generalize wl = wl9 at X9 ⊢
                generalize wk = wc9 at X9 ⊢
                generalize w7 = w9 at X9 ⊢
                generalize d.grD odl false = d9 at X9 I9 HLA ⊢
                have HCL : Aside (d9.closing = d9.closing) := ⟨rfl⟩
        all_goals
          as_aux_lemma =>
            have e1 : Aside (bT.length = bl9 ∧ wT.length = wl9) := ⟨by
              obtain ⟨_, _, h1⟩ := X9.it.wr.shape
              obtain ⟨_, _, h2⟩ := X9.it.bo.shape
              injection h1 with _ h1 _
              injection h2 with _ h2 _
              exact ⟨h2.symm, h1.symm⟩⟩
            have e2 : Aside (wl9 = bl9 + d9.staged.length ∧ bl9 ≤ wc9) := ⟨by
              have h := congrArg List.length I9.it.eq
              rw [List.length_append, e1.it.1, e1.it.2] at h
              obtain ⟨⟨_, _, e, h', _⟩, _⟩ := X9.it.wr.rd
              injection e with _ _ e3
              rw [← e3, bv_length, e1.it.2] at h'
              exact ⟨h, by omega⟩⟩
            have a1 : ¬ (wl9 : Int) < bl9 := by have := e2.it; omega
            have a2 : (bl9 : Int) ≤ wc9 := by have := e2.it; omega
            have a3 : (0 : Int) ≤ bl9 := by omega
            obtain ⟨SL, hSL⟩ : ∃ SL, Aside (SL = d9.staged.length) := ⟨_, ⟨rfl⟩⟩
            have hlw : wl9 ≤ 2000000000000 := by
              have h1 := I9.it.len
              have h3 : (k + 1) * 1048576 ≤ 1048577 * 1048576 := Nat.mul_le_mul_right _ (by omega)
              rw [e1.it.2] at h1
              omega
            have a4 : IntKind.i64.wrap ((wl9 : Int) - bl9) = SL := by
              have := e2.it
              have := hSL.it
              rw [IntKind.wrap_i64]
              omega
            have a5 : ¬ z.win < d9.credit := by
              have := X9.it.st.ok.cr2
              have := I9.it.wi
              omega
            obtain ⟨SS, hSS⟩ : ∃ SS, Aside (SS = strOf bT) := ⟨_, ⟨rfl⟩⟩
            have HS : Aside (∀ own W, Aside (Sf A w cb p z b opl d9 (.slice wa9 wl9 wc9) wT (.slice ba9 bl9 bc9) bT own W) → W.cell? ⟨cb, 0, none⟩ = some (.int .i64 z.win) ∧ (convert 36 9 (.slice ba9 bl9 bc9)).run Tryd.prog W = .ok (.string SS) W ∧ (convert 36 9 (.slice wa9 bl9 wc9)).run Tryd.prog W = .ok (.string SS) W) := by
              refine ⟨fun own W X => ⟨(Sf.cfg X).1, ?_, ?_⟩⟩
              · rw [hSS.it]; exact rd_conv10 X.it.bo.rd
              · have h := Rd.pre X.it.wr.rd (n := bl9) (by have := e2.it; have := e1.it; omega)
                have : wT.take bl9 = bT := by
                  rw [I9.it.eq, ← e1.it.1, List.take_left]
                rw [this] at h
                rw [hSS.it]; exact rd_conv10 h
            have VW : Aside (∀ own W, Aside (Sf A w cb p z b opl d9 (.slice wa9 wl9 wc9) wT (.slice ba9 bl9 bc9) bT own W) → Calls Tryd.prog 22 #[ptr p] W fun e w' => e = .returned (.agg #[.int .u32 d9.id, .int .i64 d9.state, .bool d9.mine, .bool d9.acc, .int .i64 SL, .int .u32 d9.vCredit, .int .i64 d9.vLeft, .int .i64 d9.unread.length, .int .i64 d9.vOwed, .bool d9.closing, .bool d9.told]) ∧ Aside (Sf A w cb p z b opl d9 (.slice wa9 wl9 wc9) wT (.slice ba9 bl9 bc9) bT own w')) := by
              refine ⟨fun own W X => ?_⟩
              obtain ⟨_, cu, u, sx, cx, ux, rx, H, _⟩ := X.it.st
              refine (view_at H).mono ?_
              rintro e w' ⟨rfl, K⟩
              exact ⟨by rw [hSL.it]; rfl, Sf.quiet X K.it⟩
            have VF := view_field4 (.int .u32 d9.id) (.int .i64 d9.state) (.bool d9.mine) (.bool d9.acc) (.int .i64 SL) (.int .u32 d9.vCredit) (.int .i64 d9.vLeft) (.int .i64 d9.unread.length) (.int .i64 d9.vOwed) (.bool d9.closing) (.bool d9.told)
            have X9d := Sf.quiet X9 (Keeps.refl _ w9).drew
            go_region_held3 (fun w' => w'.cell? ⟨cb, 0, none⟩ = some (.int .i64 z.win) ∧ (convert 36 9 (.slice ba9 bl9 bc9)).run Tryd.prog w' = .ok (.string SS) w' ∧ (convert 36 9 (.slice wa9 bl9 wc9)).run Tryd.prog w' = .ok (.string SS) w') (exact HS.it _ _ (by with_reducible assumption)) (first
              | (go_at_call 22; with_reducible refine (VW.it _ _ (by with_reducible assumption)).mono ?_; rintro e wA ⟨rfl, XA⟩)
              | fail)
            all_goals
              go_wp2
              go_roundw
              case rel => exact ⟨k + 1, b, _, d9, wT, bT, wa9, wl9, wc9, ba9, bl9, bc9, opl, rfl, rfl, by first | rfl | rw [HCL.it], by first | rfl | rw [HLA.it], rfl, by go_num, by omega, I9, XA⟩
              case measure => (simp only [intOf]; omega)
  · clear HG
    have NW := Aside.mk (newS_config (A := A) (w := w2) z 9 true (by decide) hg G2.it.st.s)
    unfold Cf.val at NW
    go_upto_region 5 with (first | (go_at_call 9; refine NW.it.mono ?_; rintro e w3 ⟨v3, rfl, hv3, K3⟩) | fail)
    have G3 := Aside.mk (G2.it.quiet K3.it)
    have CD := Aside.mk (code_of (A := A) G3.it.st.s hv3)
    go_wp2_with (first | (go_at_call 10; refine CD.it.mono ?_; rintro e w' ⟨rfl, rfl⟩) | fail)
    go_ret
    exact ⟨rfl, G3.it.g.bel⟩
end Go.Proofs.YteghehhifebhcaaDoor
