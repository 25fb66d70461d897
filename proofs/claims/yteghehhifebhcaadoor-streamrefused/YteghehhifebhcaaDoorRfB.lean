/-
  StreamRefused, walked.
-/
import Derived.Test.YteghehhifebhcaaDoorRfA
import Derived.Test.YteghehhifebhcaaDoorFrA
import Derived.Deep.RegionHeld3
namespace Go.Proofs.YteghehhifebhcaaDoor
open Go.RowKit

section
variable {own own' : Nat → Nat} {w w' w0 W W' : World} {A : Nat → Addr} {g p0 p1 : Nat} {d0 d1 : Dm}
theorem op10_read2 {sa : Option Addr} {M : Nat} {zs : List OpV10} (hM : M = zs.length) (hb : Below w.heap.size w w0)
    (hat : ∀ i z, zs[i]? = some z → ∃ b o cs, sa = some ⟨b, o, none⟩ ∧ Op10Ok w z cs ∧ cs.length = 14 ∧ ∀ j, j < 14 → w.cell? ⟨b, o + i * 14 + j, none⟩ = cs[j]?) (k : Nat) (hk : k < M) :
    ∃ z sb so, Op10Ok w0 z z.cells ∧ sa = some ⟨sb, so, none⟩ ∧ ∀ own W, Gs A w0 own W → ∀ j v, z.cells[j]? = some v → W.cell? ⟨sb, so + k * 14 + j, none⟩ = some v := by
  subst hM
  obtain ⟨sb, so, cs, rfl, hok, hl, hc⟩ := hat k zs[k] (List.getElem?_eq_getElem hk)
  obtain ⟨e, a1, a2, a3, a4, a5, a6, a7⟩ := hok
  subst e
  refine ⟨_, sb, so, ⟨rfl, a1, a2, a3, a4, a5.later hb, a6, a7⟩, rfl, fun own W g j v hj => g.g.cell rfl ?_⟩
  have hj' : j < 14 := by
    have := (List.getElem?_eq_some_iff.1 hj).1
    rwa [hl] at this
  have h4 := hc j hj'
  rw [hj] at h4
  rw [hb.cell (World.block_lt_of_cell? w _ h4)]
  exact h4
/-- between rounds -/
structure Rf (A : Nat → Addr) (w0 : World) (g p0 p1 : Nat) (d0 d1 : Dm) (own : Nat → Nat) (W : World) : Prop where
  s0 : StmI own 1 W p0 d0
  s1 : StmI own 6 W p1 d1
  gs : Gs A w0 own W
  box : CellsO own 11 W g 81 (bgL 2 p0 p1)
theorem Rf.box' (h : Aside (Rf A w0 g p0 p1 d0 d1 own W)) (op : List Value) :
    Aside (Rg A w0 g (bgL 2 p0 p1) 6 p1 d1 W.heap.size op 0 [] 1 p0 d0 (give own W.heap.size 12) (W.alloc (.cells op.toArray 56))) ∧ Aside (Rg A w0 g (bgL 2 p0 p1) 1 p0 d0 W.heap.size op 0 [] 6 p1 d1 (give own W.heap.size 12) (W.alloc (.cells op.toArray 56))) := by
  have s : Sn (fun _ => False) own W (give own W.heap.size 12) (W.alloc (.cells op.toArray 56)) := Sn.quiet ((Keeps.refl _ _).alloc _) 12
  have a := h.it.s0.sn s (fun _ _ _ x => x)
  have b := h.it.s1.sn s (fun _ _ _ x => x)
  have c := h.it.gs.sn s (fun x => x)
  have e := h.it.box.sn s (fun x => x)
  have f : CellsO (give own W.heap.size 12) 12 (W.alloc (.cells op.toArray 56)) W.heap.size 56 op := ⟨Cells.new W _ _, give_new (Nat.le_refl _)⟩
  exact ⟨⟨a, b, .inl ⟨rfl, rfl⟩, c, e, f, .inl rfl⟩, ⟨b, a, .inr ⟨rfl, rfl⟩, c, e, f, .inl rfl⟩⟩
theorem Rg.rf0 {ob wb : Nat} {op wl : List Value} (h : Aside (Rg A w0 g (bgL 2 p0 p1) 6 p1 d1 ob op wb wl 1 p0 d0 own W)) : Aside (Rf A w0 g p0 p1 d0 d1 own W) := ⟨h.it.s, h.it.t, h.it.gs, h.it.box⟩
theorem Rg.rf1 {ob wb : Nat} {op wl : List Value} (h : Aside (Rg A w0 g (bgL 2 p0 p1) 1 p0 d0 ob op wb wl 6 p1 d1 own W)) : Aside (Rf A w0 g p0 p1 d0 d1 own W) := ⟨h.it.t, h.it.s, h.it.gs, h.it.box⟩
/-- what was seen: its end told -/
theorem Rg.told {j q ob wb i p : Nat} {pl op : List Value} {d d2 e : Dm} (h : Aside (Rg A w0 g pl j q e ob op wb (viewL d) i p d2 own W)) :
    W.cell? ⟨wb, 10, none⟩ = some (.bool d.told) ∧ W.frozen? ⟨wb, 10, none⟩ = false ∧ Aside (Rg A w0 g pl j q e ob op wb (viewL { d with told := true }) i p d2 own (W.setCell ⟨wb, 10, none⟩ (.bool true))) := by
  rcases h.it.wa with x | x
  · cases x
  · have ne : ob ≠ wb := by
      intro y
      subst y
      have a := h.it.op.1
      have b := x.1
      unfold Cells at a b
      rw [a] at b
      simp at b
    have hij := h.it.ij
    have s : Sn (fun k => k = 12) own W own (W.setCell ⟨wb, 10, none⟩ (.bool true)) := ⟨fun _ _ => rfl, (Keeps.refl _ _).setCell _ _ (fun _ => x.2)⟩
    refine ⟨x.1.cell 10, x.1.frozen 10, ⟨h.it.s.sn s (fun k a b c => by omega), h.it.t.sn s (fun k a b c => by omega), h.it.ij, h.it.gs.sn s (by omega), h.it.box.sn s (by omega), ⟨h.it.op.1.setOther _ _ ne, h.it.op.2⟩, .inr ⟨?_, x.2⟩⟩⟩
    exact x.1.setCell 10 (.bool true)
theorem Rg.leftr {j q ob wb i p r : Nat} {pl op wl : List Value} {ys : List Int} {v : Value} {d d2 e : Dm} (h : Aside (Rg A w0 g pl j q e ob op wb wl i p d own W)) (x : Left5r own i W p d2 r v ys W') : ∃ own', Aside (Rg A w0 g pl j q e ob op wb wl i p d2 own' W') := by
  obtain ⟨own', st, _, s⟩ := x
  exact ⟨own', Rg.step h st s⟩
end
set_option maxHeartbeats 40000000 in
set_option maxRecDepth 100000 in
theorem streamRefused_walk {A : Nat → Addr} (ov : Value) (zs : List OpV10) (cut : Bool) (w : World) (hs : St9 A w) (hz : Ops10Arg w ov zs) :
    Calls Tryd.prog 5 #[ov, .bool cut] w fun e w' => e = .returned (.bool true) ∧ Below w.heap.size w w' := by
  obtain ⟨sa, sc, rfl, hsc, hmx, hat⟩ := hz
  obtain ⟨M, hM⟩ : ∃ M, M = zs.length := ⟨_, rfl⟩
  rw [← hM] at hsc ⊢
  have HAT := Aside.mk hat
  have HM := Aside.mk hM
  have hM1 : (M : Int) ≤ 9223372036854775807 := by unfold maxLen at hmx; omega
  have AW := Aside.mk (awake10 hs)
  have H9 := Aside.mk hs
  clear hat hM hsc hmx hs
  go_enter Tryd.func5, Tryd.ntmps5
  go_upto_region 3 with (first | (go_at_call 7; refine AW.it.mono ?_; rintro e w1 ⟨rfl, K1⟩) | fail)
  have BG := Aside.mk (begin10 (H9.it.later K1.it.bel))
  go_upto_region 7 with (first | (go_at_call 23; refine BG.it.mono ?_; rintro e w2 ⟨g, p0, p1, own2, rfl, B2⟩) | fail)
  have R2 : Aside (Rf A w1 g p0 p1 sd0 sd1 own2 w2) := ⟨B2.it.s0 (by omega), B2.it.s1 (by omega), B2.it.gs, B2.it.box⟩
  clear BG AW B2
  go_loopw [7] (fun i wr => ∃ (k : Nat) (own : Nat → Nat) (d0 d1 : Dm), i = .int .i64 k ∧ k ≤ M ∧ Aside (On d0 ∧ On d1) ∧ Aside (Rf A w1 g p0 p1 d0 d1 own wr)) (fun i _ => M - (intOf i).toNat)
  case atStart => exact ⟨0, own2, sd0, sd1, rfl, Nat.zero_le _, ⟨⟨rfl, rfl⟩, rfl, rfl⟩, R2⟩
  case round =>
    obtain ⟨k, own, d0, d1, rfl, hk, HO, HP⟩ := hrel
    clear R2
    rcases Nat.eq_or_lt_of_le hk with rfl | hlt
    · have BE := Aside.mk (behind10 (A := A) (w0 := w1) (p := p0) (d := d0) (own := own) (w := wr) ⟨HP.it.s0, HP.it.gs⟩ HO.it.1.1 cut)
      have c0 : wr.cell? ⟨g, 0, none⟩ = some (ptr p0) := HP.it.box.1.cell 0
      go_wp2_with (first | (go_at_call 26; refine BE.it.mono ?_; rintro e wE ⟨rfl, dE, ownE, XE⟩) | fail)
      go_ret
      exact ⟨rfl, K1.it.bel.trans (Below.mono (XE.it.g.g.bel) K1.it.size)⟩
    · obtain ⟨o, sb, so, hok, rfl, hrd⟩ := op10_read2 (A := A) HM.it K1.it.bel HAT.it k hlt
      have HR := Aside.mk (hrd _ _ HP.it.gs)
      obtain ⟨kind, ox, on, osl, ons, odl, ofl, ⟨q0, q1, q2, q3, q4, q5, q6, q7⟩⟩ := o
      obtain ⟨-, hx, hn, hdl, -, hRD, hby, hol⟩ := hok
      simp only at hx hn hdl hRD hby hol
      obtain ⟨oa, oc, hsl⟩ := hRD.shape
      obtain ⟨N, hN⟩ : ∃ N, N = ons.length := ⟨_, rfl⟩
      rw [← hN] at hsl hol
      subst hsl
      have HN := Aside.mk hN
      have RD := Aside.mk hRD
      have HOL := Aside.mk hol
      have r0 := HR.it 0 _ rfl
      have r1 := HR.it 1 _ rfl
      have r2 := HR.it 2 _ rfl
      have r3 := HR.it 3 _ rfl
      have r4 := HR.it 4 _ rfl
      have r5 := HR.it 5 _ rfl
      have r6 := HR.it 6 _ rfl
      have r7 := HR.it 7 _ rfl
      have r8 := HR.it 8 _ rfl
      have r9 := HR.it 9 _ rfl
      have r10 := HR.it 10 _ rfl
      have r11 := HR.it 11 _ rfl
      have r12 := HR.it 12 _ rfl
      have r13 := HR.it 13 _ rfl
      simp only [Nat.add_zero] at r0
      have i2 : (k : Int) < M := by omega
      have i3 : (0 : Int) ≤ k := by omega
      have i4 : (k : Int) ≤ 9223372036854775806 := by omega
      clear hN hRD hol hrd hx hn hby
      go_upto_region 10 with fail
      obtain ⟨W1, hW1⟩ : ∃ W1, W1 = wr.alloc (.cells #[.int .i64 kind, .int .i64 ox, .int .i64 on, .slice oa N oc, .int .u32 odl, .bool ofl, .int .i64 q0, .int .i64 q1, .int .i64 q2, .int .i64 q3, .int .i64 q4, .int .i64 q5, .int .i64 q6, .int .i64 q7] 56) := ⟨_, rfl⟩
      have RG := Rf.box' HP [.int .i64 kind, .int .i64 ox, .int .i64 on, .slice oa N oc, .int .u32 odl, .bool ofl, .int .i64 q0, .int .i64 q1, .int .i64 q2, .int .i64 q3, .int .i64 q4, .int .i64 q5, .int .i64 q6, .int .i64 q7]
      rw [show ([.int .i64 kind, .int .i64 ox, .int .i64 on, .slice oa N oc, .int .u32 odl, .bool ofl, .int .i64 q0, .int .i64 q1, .int .i64 q2, .int .i64 q3, .int .i64 q4, .int .i64 q5, .int .i64 q6, .int .i64 q7] : List Value).toArray = #[.int .i64 kind, .int .i64 ox, .int .i64 on, .slice oa N oc, .int .u32 odl, .bool ofl, .int .i64 q0, .int .i64 q1, .int .i64 q2, .int .i64 q3, .int .i64 q4, .int .i64 q5, .int .i64 q6, .int .i64 q7] from rfl, ← hW1] at RG
      rw [← hW1]
      obtain ⟨RG0, RG1⟩ := RG
      clear hW1 HP HR r0 r1 r2 r3 r4 r5 r6 r7 r8 r9 r10 r11 r12 r13
      generalize give own wr.heap.size 12 = ownA at RG0 RG1
      generalize wr.heap.size = b at RG0 RG1 ⊢
      have b0 : W1.cell? ⟨b, 0, none⟩ = some (.int .i64 kind) := RG0.it.op.1.cell 0
      have b1 : W1.cell? ⟨b, 1, none⟩ = some (.int .i64 ox) := RG0.it.op.1.cell 1
      have g0 : W1.cell? ⟨g, 0, none⟩ = some (ptr p0) := RG0.it.box.1.cell 0
      have g1 : W1.cell? ⟨g, 1, none⟩ = some (ptr p1) := RG0.it.box.1.cell 1
      by_cases hsk : kind = 1 ∨ kind = 12 ∨ kind = 9 ∨ kind = 10
      · have R9 := Rg.rf0 RG0
        rcases hsk with rfl | rfl | rfl | rfl
        · go_wp2
          go_roundw
          case rel => exact ⟨k + 1, _, d0, d1, by go_num, by omega, HO, R9⟩
          case measure => (simp only [intOf]; omega)
        · go_wp2
          go_roundw
          case rel => exact ⟨k + 1, _, d0, d1, by go_num, by omega, HO, R9⟩
          case measure => (simp only [intOf]; omega)
        · go_wp2
          go_roundw
          case rel => exact ⟨k + 1, _, d0, d1, by go_num, by omega, HO, R9⟩
          case measure => (simp only [intOf]; omega)
        · go_wp2
          go_roundw
          case rel => exact ⟨k + 1, _, d0, d1, by go_num, by omega, HO, R9⟩
          case measure => (simp only [intOf]; omega)
      · have n1 : ¬ kind = 1 := fun x => hsk (.inl x)
        have n2 : ¬ kind = 12 := fun x => hsk (.inr (.inl x))
        have n3 : ¬ kind = 9 := fun x => hsk (.inr (.inr (.inl x)))
        have n4 : ¬ kind = 10 := fun x => hsk (.inr (.inr (.inr x)))
        clear hsk
        go_upto_region 11 with fail
        all_goals first
          | exact ⟨⟨k + 1, _, d0, d1, by go_num, by omega, HO, Rg.rf0 RG0⟩, by simp only [intOf]; omega⟩
          | skip
        rcases and_one ox with hx | hx
        case' inl =>
          go_quiet (fail)
          go_upto_region 12 with fail
          obtain ⟨i, j, p, q, d, e, hp, X1, HD, RX⟩ : ∃ (i j p q : Nat) (d e : Dm), p0 = p ∧ Aside (Rg A w1 g (bgL 2 p0 p1) j q e b [.int .i64 kind, .int .i64 ox, .int .i64 on, .slice oa N oc, .int .u32 odl, .bool ofl, .int .i64 q0, .int .i64 q1, .int .i64 q2, .int .i64 q3, .int .i64 q4, .int .i64 q5, .int .i64 q6, .int .i64 q7] 0 [] i p d ownA (W1.drewN nq)) ∧ Aside (On d) ∧ Aside (∀ dd own' W' wb wl, On dd → Aside (Rg A w1 g (bgL 2 p0 p1) j q e b [.int .i64 kind, .int .i64 ox, .int .i64 on, .slice oa N oc, .int .u32 odl, .bool ofl, .int .i64 q0, .int .i64 q1, .int .i64 q2, .int .i64 q3, .int .i64 q4, .int .i64 q5, .int .i64 q6, .int .i64 q7] wb wl i p dd own' W') → ∃ (own2 : Nat → Nat) (e0 e1 : Dm), Aside (On e0 ∧ On e1) ∧ Aside (Rf A w1 g p0 p1 e0 e1 own2 W')) :=
            ⟨1, 6, p0, p1, d0, d1, rfl, Rg.quiet RG0 ((Keeps.refl _ _).drewN nq), ⟨HO.it.1⟩, ⟨fun dd own' W' wb wl h X => ⟨own', dd, d1, ⟨h, HO.it.2⟩, Rg.rf0 X⟩⟩⟩
          rw [hp]
          clear hp
          generalize W1.drewN nq = W2 at X1 ⊢
          clear RG0 RG1 g0 g1 b0 b1 hx
        case' inr =>
          go_quiet (fail)
          go_upto_region 12 with fail
          obtain ⟨i, j, p, q, d, e, hp, X1, HD, RX⟩ : ∃ (i j p q : Nat) (d e : Dm), p1 = p ∧ Aside (Rg A w1 g (bgL 2 p0 p1) j q e b [.int .i64 kind, .int .i64 ox, .int .i64 on, .slice oa N oc, .int .u32 odl, .bool ofl, .int .i64 q0, .int .i64 q1, .int .i64 q2, .int .i64 q3, .int .i64 q4, .int .i64 q5, .int .i64 q6, .int .i64 q7] 0 [] i p d ownA (W1.drewN nq)) ∧ Aside (On d) ∧ Aside (∀ dd own' W' wb wl, On dd → Aside (Rg A w1 g (bgL 2 p0 p1) j q e b [.int .i64 kind, .int .i64 ox, .int .i64 on, .slice oa N oc, .int .u32 odl, .bool ofl, .int .i64 q0, .int .i64 q1, .int .i64 q2, .int .i64 q3, .int .i64 q4, .int .i64 q5, .int .i64 q6, .int .i64 q7] wb wl i p dd own' W') → ∃ (own2 : Nat → Nat) (e0 e1 : Dm), Aside (On e0 ∧ On e1) ∧ Aside (Rf A w1 g p0 p1 e0 e1 own2 W')) :=
            ⟨6, 1, p1, p0, d1, d0, rfl, Rg.quiet RG1 ((Keeps.refl _ _).drewN nq), ⟨HO.it.2⟩, ⟨fun dd own' W' wb wl h X => ⟨own', d0, dd, ⟨HO.it.1, h⟩, Rg.rf1 X⟩⟩⟩
          rw [hp]
          clear hp
          generalize W1.drewN nq = W2 at X1 ⊢
          clear RG0 RG1 g0 g1 b0 b1 hx
        all_goals
          have VW := Aside.mk (rg_view X1)
          unfold viewL at VW
          go_upto_region 13 with (first | (go_at_call 22; refine VW.it.mono ?_; rintro e' W3 ⟨rfl, X3⟩) | fail)
          have X4 := Rg.seen X3 (viewL d)
          obtain ⟨W4, hW4⟩ : ∃ W4, W4 = W3.alloc (.cells #[.int .u32 d.id, .int .i64 d.state, .bool d.mine, .bool d.acc, .int .i64 d.staged.length, .int .u32 d.vCredit, .int .i64 d.vLeft, .int .i64 d.unread.length, .int .i64 d.vOwed, .bool d.closing, .bool d.told] 70) := ⟨_, rfl⟩
          rw [show (viewL d).toArray = #[.int .u32 d.id, .int .i64 d.state, .bool d.mine, .bool d.acc, .int .i64 d.staged.length, .int .u32 d.vCredit, .int .i64 d.vLeft, .int .i64 d.unread.length, .int .i64 d.vOwed, .bool d.closing, .bool d.told] from rfl, ← hW4] at X4
          rw [← hW4]
          clear hW4 VW X1
          generalize give ownA W3.heap.size 12 = ownB at X4
          generalize W3.heap.size = wb at X4 ⊢
          have b0 : W4.cell? ⟨b, 0, none⟩ = some (.int .i64 kind) := X4.it.op.1.cell 0
          have b2 : W4.cell? ⟨b, 2, none⟩ = some (.int .i64 on) := X4.it.op.1.cell 2
          have b3 : W4.cell? ⟨b, 3, none⟩ = some (.slice oa N oc) := X4.it.op.1.cell 3
          have b4 : W4.cell? ⟨b, 4, none⟩ = some (.int .u32 odl) := X4.it.op.1.cell 4
          have b5 : W4.cell? ⟨b, 5, none⟩ = some (.bool ofl) := X4.it.op.1.cell 5
          clear X3
          by_cases k2 : kind = 2
          case' pos =>
            subst k2
            have CA := Aside.mk (accept_at X4.it.s X4.it.gs.st)
            go_upto_region 30 with (first | (go_at_call 11; refine CA.it.mono ?_; rintro e' W5 ⟨v5, rfl, hv5, Y5⟩) | fail)
            obtain ⟨ownX, X5⟩ := Rg.left X4 Y5.it
            have HK : Aside (d.accE ≠ 0 → d.accD = d) := ⟨accE_keeps⟩
            have H2 : Aside (On (d.accD)) := ⟨HD.it.acc⟩
            clear CA Y5
            generalize d.accE = c at hv5 HK
            generalize d.accD = d2 at X5 HK H2
            obtain ⟨dv, hdv⟩ : ∃ dv, dv = d := ⟨_, rfl⟩
            rw [← hdv] at HK X5
            clear hdv
            generalize ([.int .i64 2, .int .i64 ox, .int .i64 on, .slice oa N oc, .int .u32 odl, .bool ofl, .int .i64 q0, .int .i64 q1, .int .i64 q2, .int .i64 q3, .int .i64 q4, .int .i64 q5, .int .i64 q6, .int .i64 q7] : List Value) = opl at X5 RX
          case' neg =>
            by_cases k4 : kind = 4
            case' pos =>
              subst k4
              have CA := Aside.mk (close_at X4.it.s X4.it.gs.st.s)
              go_upto_region 30 with (first | (go_at_call 19; refine CA.it.mono ?_; rintro e' W5 ⟨v5, rfl, hv5, Y5⟩) | fail)
              obtain ⟨ownX, X5⟩ := Rg.left X4 Y5.it
              clear CA
              have HK : Aside (d.wrE ≠ 0 → d.clD = d) := ⟨fun x => (wrE_keeps x []).2⟩
              have H2 : Aside (On (d.clD)) := ⟨HD.it.cl⟩
              clear Y5
              generalize d.wrE = c at hv5 HK
              generalize d.clD = d2 at X5 HK H2
              obtain ⟨dv, hdv⟩ : ∃ dv, dv = d := ⟨_, rfl⟩
              rw [← hdv] at HK X5
              clear hdv
              generalize ([.int .i64 4, .int .i64 ox, .int .i64 on, .slice oa N oc, .int .u32 odl, .bool ofl, .int .i64 q0, .int .i64 q1, .int .i64 q2, .int .i64 q3, .int .i64 q4, .int .i64 q5, .int .i64 q6, .int .i64 q7] : List Value) = opl at X5 RX
            case' neg =>
              by_cases k8 : kind = 8
              case' pos =>
                subst k8
                have CA := Aside.mk (grant_at10 X4.it.s X4.it.gs (Rg.one X4) odl hdl.1 ofl)
                go_upto_region 30 with (first | (go_at_call 20; refine CA.it.mono ?_; rintro e' W5 ⟨v5, rfl, hv5, Y5⟩) | fail)
                obtain ⟨ownX, X5⟩ := Rg.left X4 Y5.it
                clear CA
                have HK : Aside (d.grE odl ≠ 0 → d.grD odl ofl = d) := ⟨fun x => grE_keeps odl x ofl⟩
                have H2 : Aside (On (d.grD odl ofl)) := ⟨HD.it.gr odl ofl⟩
                clear Y5
                generalize d.grE odl = c at hv5 HK
                generalize d.grD odl ofl = d2 at X5 HK H2
                obtain ⟨dv, hdv⟩ : ∃ dv, dv = d := ⟨_, rfl⟩
                rw [← hdv] at HK X5
                clear hdv
                generalize ([.int .i64 8, .int .i64 ox, .int .i64 on, .slice oa N oc, .int .u32 odl, .bool ofl, .int .i64 q0, .int .i64 q1, .int .i64 q2, .int .i64 q3, .int .i64 q4, .int .i64 q5, .int .i64 q6, .int .i64 q7] : List Value) = opl at X5 RX
              case' neg =>
                by_cases k3 : kind = 3
                case' pos =>
                  subst k3
                  have CP := Aside.mk (copied10 ownB 13 oa N oc ons HN.it.symm (RD.it.later X4.it.gs.g.bel) (by have := HOL.it; omega))
                  go_upto_region 30 with (first
                    | (go_at_call 18; refine CP.it.mono ?_; rintro e' W4' ⟨qc, cc, rfl, Y4⟩; have X4' := Rg.fresh X4 Y4.it.2 13; have WR := Aside.mk (write_at X4'.it.s X4'.it.gs.st.s (.slice qc N cc) ons (copied_reads (I := Five i) Y4.it.1 (Rg.far X4 (by omega))) (by have := HOL.it; have := HN.it; omega)))
                    | (go_at_call 17; refine WR.it.mono ?_; rintro e' W5 ⟨v5, rfl, hv5, Y5⟩)
                    | fail)
                  obtain ⟨ownX, X5⟩ := Rg.left X4' Y5.it
                  clear CP WR X4' Y4
                  have HK : Aside (d.wrE ≠ 0 → d.wrD ons = d) := ⟨fun x => (wrE_keeps x ons).1⟩
                  have H2 : Aside (On (d.wrD ons)) := ⟨HD.it.wr ons⟩
                  clear Y5
                  generalize d.wrE = c at hv5 HK
                  generalize d.wrD ons = d2 at X5 HK H2
                  obtain ⟨dv, hdv⟩ : ∃ dv, dv = d := ⟨_, rfl⟩
                  rw [← hdv] at HK X5
                  clear hdv
                  generalize ([.int .i64 3, .int .i64 ox, .int .i64 on, .slice oa N oc, .int .u32 odl, .bool ofl, .int .i64 q0, .int .i64 q1, .int .i64 q2, .int .i64 q3, .int .i64 q4, .int .i64 q5, .int .i64 q6, .int .i64 q7] : List Value) = opl at X5 RX
                case' neg =>
                  by_cases k5 : kind = 5
                  case' pos =>
                    subst k5
                    have CA := Aside.mk (read_at10 X4.it.s X4.it.gs (Rg.one X4) on 13 (Rg.far X4 (by omega)))
                    go_upto_region 25 with (first | (go_at_call 24; refine CA.it.mono ?_; rintro e' W5 ⟨sq5, m5, v5, rfl, -, hv5, Y5⟩) | fail)
                    obtain ⟨ownX, X5⟩ := Rg.leftr X4 Y5.it
                    have HK : Aside (d.rdE on ≠ 0 → d.rdD on = if d.rdE on = 25 then { d with told := true } else d) := ⟨fun x => rdE_keeps X4.it.s.1 on x⟩
                    have H2 : Aside (On (d.rdD on)) := ⟨HD.it.rd on⟩
                    have CD := Aside.mk (code_of (A := A) X5.it.gs.st.s hv5.out)
                    clear CA Y5
                    generalize d.rdE on = c at hv5 HK CD
                    generalize d.rdD on = d2 at X5 HK H2
                    generalize ([.int .i64 5, .int .i64 ox, .int .i64 on, .slice oa N oc, .int .u32 odl, .bool ofl, .int .i64 q0, .int .i64 q1, .int .i64 q2, .int .i64 q3, .int .i64 q4, .int .i64 q5, .int .i64 q6, .int .i64 q7] : List Value) = opl at X5 RX
                    rcases Decidable.em (c = 25) with h25 | h25
                    case' inl =>
                      rw [if_pos h25] at HK
                      rw [h25] at CD
                      obtain ⟨t10, f10, X6⟩ := Rg.told X5
                      go_upto_region 30 with (first | (go_at_call 10; refine CD.it.mono ?_; rintro e' W6 ⟨rfl, h6⟩; rw [h6]; clear h6) | fail)
                      clear CD t10 f10 h25 X5
                      generalize ({ d with told := true } : Dm) = dv at X6 HK
                      generalize W5.setCell ⟨wb, 10, none⟩ (.bool true) = W7 at X6 ⊢
                      have X5 := X6
                      clear X6
                    case' inr =>
                      go_upto_region 30 with (first | (go_at_call 10; refine CD.it.mono ?_; rintro e' W6 ⟨rfl, h6⟩; rw [h6]; clear h6) | fail)
                      clear CD
                      rw [if_neg h25] at HK
                      clear h25
                      obtain ⟨dv, hdv⟩ : ∃ dv, dv = d := ⟨_, rfl⟩
                      rw [← hdv] at HK X5
                      clear hdv
                  case' neg =>
                    by_cases k7 : kind = 7
                    case' pos =>
                      subst k7
                      go_upto_region 27 with fail
                      have CP : Aside (∀ W, Aside (Rg A w1 g (bgL 2 p0 p1) j q e b [.int .i64 7, .int .i64 ox, .int .i64 on, .slice oa N oc, .int .u32 odl, .bool ofl, .int .i64 q0, .int .i64 q1, .int .i64 q2, .int .i64 q3, .int .i64 q4, .int .i64 q5, .int .i64 q6, .int .i64 q7] wb (viewL d) i p d ownB W) → Calls Tryd.prog 18 #[.slice oa N oc] W fun e' w' => ∃ qc cc own', e' = .returned (.slice qc N cc) ∧ Aside (Rg A w1 g (bgL 2 p0 p1) j q e b [.int .i64 7, .int .i64 ox, .int .i64 on, .slice oa N oc, .int .u32 odl, .bool ofl, .int .i64 q0, .int .i64 q1, .int .i64 q2, .int .i64 q3, .int .i64 q4, .int .i64 q5, .int .i64 q6, .int .i64 q7] wb (viewL d) i p d own' w' ∧ ReadsOff (fun k => Five i (own' k)) w' (.slice qc N cc) (bv ons))) := ⟨fun W X => by
                        refine (copied10 ownB 13 oa N oc ons HN.it.symm (RD.it.later X.it.gs.g.bel) (by have := HOL.it; omega)).mono ?_
                        rintro e' w' ⟨qc, cc, rfl, Y⟩
                        exact ⟨qc, cc, _, rfl, (Rg.fresh X Y.it.2 13).it, copied_reads (I := Five i) Y.it.1 (Rg.far X (by omega))⟩⟩
                      have AR : Aside (∀ qc cc own W, Aside (Rg A w1 g (bgL 2 p0 p1) j q e b [.int .i64 7, .int .i64 ox, .int .i64 on, .slice oa N oc, .int .u32 odl, .bool ofl, .int .i64 q0, .int .i64 q1, .int .i64 q2, .int .i64 q3, .int .i64 q4, .int .i64 q5, .int .i64 q6, .int .i64 q7] wb (viewL d) i p d own W ∧ ReadsOff (fun k => Five i (own k)) W (.slice qc N cc) (bv ons)) → Calls Tryd.prog 25 #[ptr p, .slice qc N cc, .bool ofl] W fun e' w' => ∃ v own', e' = .returned v ∧ Hid (Coded A v (d.arE N)) ∧ Aside (Rg A w1 g (bgL 2 p0 p1) j q e b [.int .i64 7, .int .i64 ox, .int .i64 on, .slice oa N oc, .int .u32 odl, .bool ofl, .int .i64 q0, .int .i64 q1, .int .i64 q2, .int .i64 q3, .int .i64 q4, .int .i64 q5, .int .i64 q6, .int .i64 q7] wb (viewL d) i p (d.arD ons ofl) own' w')) := ⟨fun qc cc own W X => by
                        refine (arrive_at10 X.it.1.s X.it.1.gs (Rg.one ⟨X.it.1⟩) qc N cc ons HN.it.symm ofl X.it.2).mono ?_
                        rintro e' w' ⟨v, rfl, hv, Y⟩
                        obtain ⟨own', Z⟩ := Rg.left ⟨X.it.1⟩ Y.it
                        exact ⟨v, own', rfl, hv, Z⟩⟩
                      have HK : Aside (d.arE N ≠ 0 → d.arD ons ofl = d) := ⟨fun x => arE_keeps N ons (by rw [HN.it]) x ofl⟩
                      have H2 : Aside (On (d.arD ons ofl)) := ⟨HD.it.ar ons ofl⟩
                      have HS : Aside (∀ dd own w', Aside (Rg A w1 g (bgL 2 p0 p1) j q e b [.int .i64 7, .int .i64 ox, .int .i64 on, .slice oa N oc, .int .u32 odl, .bool ofl, .int .i64 q0, .int .i64 q1, .int .i64 q2, .int .i64 q3, .int .i64 q4, .int .i64 q5, .int .i64 q6, .int .i64 q7] wb (viewL d) i p dd own w') → w'.cell? ⟨b, 3, none⟩ = some (.slice oa N oc) ∧ w'.cell? ⟨b, 5, none⟩ = some (.bool ofl)) := ⟨fun dd own w' X => ⟨X.it.op.1.cell 3, X.it.op.1.cell 5⟩⟩
                      have X4d := Rg.quiet X4 (Keeps.refl _ W4).drew
                      generalize d.arE N = c at AR HK
                      generalize d.arD ons ofl = d2 at AR HK H2
                      obtain ⟨dv, hdv⟩ : ∃ dv, dv = d := ⟨_, rfl⟩
                      rw [← hdv] at HK
                      go_region_held3 (fun w' => w'.cell? ⟨b, 3, none⟩ = some (.slice oa N oc) ∧ w'.cell? ⟨b, 5, none⟩ = some (.bool ofl)) (first | exact HS.it _ _ _ (by with_reducible assumption) | exact HS.it _ _ _ ⟨(by with_reducible assumption : Aside (Rg A w1 g (bgL 2 p0 p1) j q e b [.int .i64 7, .int .i64 ox, .int .i64 on, .slice oa N oc, .int .u32 odl, .bool ofl, .int .i64 q0, .int .i64 q1, .int .i64 q2, .int .i64 q3, .int .i64 q4, .int .i64 q5, .int .i64 q6, .int .i64 q7] wb (viewL d) i p d _ _ ∧ _)).it.1⟩) (first
                        | (go_at_call 18; with_reducible refine (CP.it _ (by with_reducible assumption)).mono ?_; rintro e' WA ⟨qc, cc, ownY, rfl, XA⟩)
                        | (go_at_call 25; with_reducible refine (AR.it _ _ _ _ (by with_reducible assumption)).mono ?_; rintro e' W5 ⟨v5, ownX, rfl, hv5, X5⟩)
                        | fail)
                      all_goals
                        rw [← hdv] at X5
                        clear hdv CP AR HS X4d
                        generalize ([.int .i64 7, .int .i64 ox, .int .i64 on, .slice oa N oc, .int .u32 odl, .bool ofl, .int .i64 q0, .int .i64 q1, .int .i64 q2, .int .i64 q3, .int .i64 q4, .int .i64 q5, .int .i64 q6, .int .i64 q7] : List Value) = opl at X5 RX
                        go_upto_region 30 with fail
                    case' neg =>
                      by_cases hr : d.ready = true
                      case' pos =>
                        have CA := Aside.mk (frame_yes X4.it.s X4.it.gs (Rg.one X4) hr 13 (Rg.far X4 (by omega)) (by decide))
                        go_upto_region 30 with (first | (go_at_call 21; refine CA.it.mono ?_; rintro e' W5 ⟨sq5, m5, rfl, -, Y5⟩) | fail)
                        obtain ⟨ownX, X5⟩ := Rg.leftr X4 Y5.it
                        have H2 : Aside (On d.frD) := ⟨HD.it.fr⟩
                        clear CA Y5
                        generalize d.frD = d2 at X5 H2
                      case' neg =>
                        have CA := Aside.mk (frame_no X4.it.s X4.it.gs.st.tab (by simpa using hr))
                        go_upto_region 30 with (first | (go_at_call 21; refine CA.it.mono ?_; rintro e' W5 ⟨rfl, Y5⟩) | fail)
                        have X5 := Rg.quiet X4 Y5.it
                        have H2 : Aside (On d) := HD
                        clear CA Y5
                      all_goals
                        clear X4 b0 b2 b3 b4 b5
                        as_aux_lemma =>
                          go_quiet (fail)
                          go_wp2
                          obtain ⟨own6, e0, e1, HO6, R6⟩ := RX.it _ _ _ _ _ H2.it (Rg.quiet X5 ((Keeps.refl _ _).drewN nq))
                          go_roundw
                          case rel => exact ⟨k + 1, own6, e0, e1, by go_num, by omega, HO6, R6⟩
                          case measure => (simp only [intOf]; omega)
          all_goals
            clear X4 b0 b2 b3 b4 b5
            as_aux_lemma =>
              by_cases hc : c = 0
              case' pos =>
                subst hc
                obtain rfl := Coded.zero hv5
                go_quiet (fail)
                go_wp2
                obtain ⟨own6, e0, e1, HO6, R6⟩ := RX.it d2 _ _ _ _ H2.it (Rg.quiet X5 ((Keeps.refl _ _).drewN nq))
                go_roundw
                case rel => exact ⟨k + 1, own6, e0, e1, by go_num, by omega, HO6, R6⟩
                case measure => (simp only [intOf]; omega)
              case' neg =>
                obtain ⟨a5, rfl⟩ := Coded.pos hv5 hc
                obtain rfl := HK.it hc
                have VW : Aside (∀ own W, Aside (Rg A w1 g (bgL 2 p0 p1) j q e b opl wb (viewL d2) i p d2 own W) → Calls Tryd.prog 22 #[ptr p] W fun e' w' => e' = .returned (.agg #[.int .u32 d2.id, .int .i64 d2.state, .bool d2.mine, .bool d2.acc, .int .i64 d2.staged.length, .int .u32 d2.vCredit, .int .i64 d2.vLeft, .int .i64 d2.unread.length, .int .i64 d2.vOwed, .bool d2.closing, .bool d2.told]) ∧ Aside (Rg A w1 g (bgL 2 p0 p1) j q e b opl wb (viewL d2) i p d2 own w')) := ⟨fun own W X => rg_view X⟩
                have HS : Aside (∀ own w', Aside (Rg A w1 g (bgL 2 p0 p1) j q e b opl wb (viewL d2) i p d2 own w') → w'.cell? ⟨wb, 0, none⟩ = some (.int .u32 d2.id) ∧ w'.cell? ⟨wb, 1, none⟩ = some (.int .i64 d2.state) ∧ w'.cell? ⟨wb, 2, none⟩ = some (.bool d2.mine) ∧ w'.cell? ⟨wb, 3, none⟩ = some (.bool d2.acc) ∧ w'.cell? ⟨wb, 4, none⟩ = some (.int .i64 d2.staged.length) ∧ w'.cell? ⟨wb, 5, none⟩ = some (.int .u32 d2.vCredit) ∧ w'.cell? ⟨wb, 6, none⟩ = some (.int .i64 d2.vLeft) ∧ w'.cell? ⟨wb, 7, none⟩ = some (.int .i64 d2.unread.length) ∧ w'.cell? ⟨wb, 8, none⟩ = some (.int .i64 d2.vOwed) ∧ w'.cell? ⟨wb, 9, none⟩ = some (.bool d2.closing) ∧ w'.cell? ⟨wb, 10, none⟩ = some (.bool d2.told)) := by
                  refine ⟨fun own w' X => ?_⟩
                  rcases X.it.wa with x | x
                  · cases x
                  · have c := x.1.cell
                    exact ⟨c 0, c 1, c 2, c 3, c 4, c 5, c 6, c 7, c 8, c 9, c 10⟩
                have VN : ∀ w, (binOp .neq 70 (.agg #[.int .u32 d2.id, .int .i64 d2.state, .bool d2.mine, .bool d2.acc, .int .i64 d2.staged.length, .int .u32 d2.vCredit, .int .i64 d2.vLeft, .int .i64 d2.unread.length, .int .i64 d2.vOwed, .bool d2.closing, .bool d2.told]) (.agg #[.int .u32 d2.id, .int .i64 d2.state, .bool d2.mine, .bool d2.acc, .int .i64 d2.staged.length, .int .u32 d2.vCredit, .int .i64 d2.vLeft, .int .i64 d2.unread.length, .int .i64 d2.vOwed, .bool d2.closing, .bool d2.told])).run Tryd.prog w = .ok (.bool false) w := fun w => view_neq d2 w
                have X5d := Rg.quiet X5 (Keeps.refl _ _).drew
                go_region_held3 (fun w' => w'.cell? ⟨wb, 0, none⟩ = some (.int .u32 d2.id) ∧ w'.cell? ⟨wb, 1, none⟩ = some (.int .i64 d2.state) ∧ w'.cell? ⟨wb, 2, none⟩ = some (.bool d2.mine) ∧ w'.cell? ⟨wb, 3, none⟩ = some (.bool d2.acc) ∧ w'.cell? ⟨wb, 4, none⟩ = some (.int .i64 d2.staged.length) ∧ w'.cell? ⟨wb, 5, none⟩ = some (.int .u32 d2.vCredit) ∧ w'.cell? ⟨wb, 6, none⟩ = some (.int .i64 d2.vLeft) ∧ w'.cell? ⟨wb, 7, none⟩ = some (.int .i64 d2.unread.length) ∧ w'.cell? ⟨wb, 8, none⟩ = some (.int .i64 d2.vOwed) ∧ w'.cell? ⟨wb, 9, none⟩ = some (.bool d2.closing) ∧ w'.cell? ⟨wb, 10, none⟩ = some (.bool d2.told)) (exact HS.it _ _ (by with_reducible assumption)) (first
                  | (go_at_call 22; with_reducible refine (VW.it _ _ (by with_reducible assumption)).mono ?_; rintro e' WA ⟨rfl, XA⟩)
                  | fail)
                all_goals
                  go_wp2
                  obtain ⟨own6, e0, e1, HO6, R6⟩ := RX.it d2 _ _ _ _ H2.it XA
                  go_roundw
                  case rel => exact ⟨k + 1, own6, e0, e1, by go_num, by omega, HO6, R6⟩
                  case measure => (simp only [intOf]; omega)
end Go.Proofs.YteghehhifebhcaaDoor
