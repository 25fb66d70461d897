/-
  LaneTakes
-/
import Derived.Test.YtialmmobkmdfpaaDoorLnX
import Derived.Test.YtialmmobkmdfpaaDoorOpenOp
import Derived.Deep.DeepCutAuto
namespace Go.Proofs.YtialmmobkmdfpaaDoor
open Go.RowKit

variable {A : Nat → Addr} {w w' w0 : World} {own own' : Nat → Nat} {p m : Nat} {L : List Tk} {I : Nat → Prop}

/-- a slice of tickets that lies in blocks of the owner 9 -/
def RdO9 (own : Nat → Nat) (w : World) (v : Value) (L : List Tk) : Prop := RdT w v L ∧ ∀ k, v.ownBlock = some k → own k = 9 ∧ k < w.heap.size
theorem RdO9.sn {v : Value} (h : RdO9 own w v L) (s : Sn I own w own' w') (hi : ¬ I 9) : RdO9 own' w' v L :=
  ⟨ReadsK.later h.1 s.keeps (fun k hk e => hi (by rw [(h.2 k hk).1] at e; exact e)), fun k hk => ⟨(s.agree k (h.2 k hk).2).trans (h.2 k hk).1, Nat.lt_of_lt_of_le (h.2 k hk).2 s.keeps.size⟩⟩
/-- a round's world: the lane, the call's box, what waited, what is left -/
structure Tx (A : Nat → Addr) (w0 : World) (p : Nat) (L : List Tk) (m b : Nat) (o : OpV11) (vw : Value) (LW : List Tk) (vl : Value) (LL : List Tk) (own : Nat → Nat) (W : World) : Prop where
  l : Ln A w0 own W p L m
  b : CellsO own 9 W b 32 o.cells
  w : RdO9 own W vw LW
  f : RdO9 own W vl LL
theorem Tx.sn {b : Nat} {o : OpV11} {vw vl : Value} {LW LL L' : List Tk} {m' : Nat} (h : Aside (Tx A w0 p L m b o vw LW vl LL own w)) (s : Sn (In4 1) own w own' w') (l : Ln A w0 own' w' p L' m') : Aside (Tx A w0 p L' m' b o vw LW vl LL own' w') :=
  ⟨⟨l, h.it.b.sn s (by unfold In4; omega), h.it.w.sn s (by unfold In4; omega), h.it.f.sn s (by unfold In4; omega)⟩⟩
theorem Tx.quiet {b : Nat} {o : OpV11} {vw vl : Value} {LW LL : List Tk} (h : Aside (Tx A w0 p L m b o vw LW vl LL own w)) (k : Keeps Nowhere w w') : Aside (Tx A w0 p L m b o vw LW vl LL own w') :=
  Tx.sn h (Sn.same k) (h.it.l.quiet k)
theorem not_in4_9 : ¬ In4 1 9 := fun h => by have := h.2; omega
section
variable {b : Nat} {o : OpV11} {vw vl : Value} {LW LL : List Tk}
theorem tx_list (X : Aside (Tx A w0 p L m b o vw LW vl LL own w)) (hm : m ≤ 8796093022208) : Calls Tryd.prog 13 #[ptr p] w fun e w' => ∃ v, e = .returned v ∧ Aside (RdT w' v L) ∧ Aside (Tx A w0 p L m b o vw LW vl LL own w') := by
  refine (listX X.it.l hm).mono ?_
  rintro e w' ⟨v, rfl, o, k⟩
  exact ⟨v, rfl, ⟨owns_readsK o.it⟩, Tx.quiet X k.it⟩
theorem tx_len (X : Aside (Tx A w0 p L m b o vw LW vl LL own w)) : Calls Tryd.prog 11 #[ptr p] w fun e w' => e = .returned (.int .i64 L.length) ∧ Aside (Tx A w0 p L m b o vw LW vl LL own w') := by
  refine (lenX X.it.l).mono ?_
  rintro e w' ⟨rfl, k⟩
  exact ⟨rfl, Tx.quiet X k.it⟩
theorem tx_was (X : Aside (Tx A w0 p L m b o vw LW vl LL own w)) (v : Value) (h : Aside (RdT w v LW)) : Calls Tryd.prog 12 #[v, vw] w fun e w' => e = .returned (.bool true) ∧ Aside (Tx A w0 p L m b o vw LW vl LL own w') := by
  refine (same_tk v vw LW h.it X.it.w.1).mono ?_
  rintro e w' ⟨rfl, k⟩
  exact ⟨rfl, Tx.quiet X k⟩
theorem tx_left (X : Aside (Tx A w0 p L m b o vw LW vl LL own w)) (v : Value) (h : Aside (RdT w v LL)) : Calls Tryd.prog 12 #[v, vl] w fun e w' => e = .returned (.bool true) ∧ Aside (Tx A w0 p L m b o vw LW vl LL own w') := by
  refine (same_tk v vl LL h.it X.it.f.1).mono ?_
  rintro e w' ⟨rfl, k⟩
  exact ⟨rfl, Tx.quiet X k⟩
theorem Tx.cells (X : Aside (Tx A w0 p L m b o vw LW vl LL own w)) : w.cell? ⟨b, 0, none⟩ = some (.int .i64 o.kind) ∧ w.cell? ⟨b, 1, none⟩ = some (.int .i64 o.t.k) ∧ w.cell? ⟨b, 2, none⟩ = some (.int .u32 o.t.s) ∧ w.cell? ⟨b, 3, none⟩ = some (.int .u32 o.t.v) := by
  have h := X.it.b.1
  exact ⟨by rw [h.cell]; rfl, by rw [h.cell]; rfl, by rw [h.cell]; rfl, by rw [h.cell]; rfl⟩
theorem Tx.more (X : Aside (Tx A w0 p L m b o vw LW vl LL own w)) : Aside (Tx A w0 p L (m + 1) b o vw LW vl LL own w) := ⟨{ X.it with l := X.it.l.more }⟩
end
theorem putL_fail (l : List Tk) (t : Tk) (h : (putL l t).2 ≠ 0) : (putL l t).1 = l := by
  unfold putL at h ⊢
  split
  · rfl
  · rename_i h0
    rw [if_neg h0] at h
    split
    · rename_i h1
      rw [if_pos h1] at h
      exact absurd rfl h
    · rename_i h1
      rw [if_neg h1] at h
      split
      · rename_i h2
        rw [h2] at h
        exact absurd rfl h
      · rename_i u h2
        rw [h2] at h
        simp only at h
        split
        · rfl
        · rename_i h3
          rw [if_neg h3] at h
          split
          · rfl
          · rename_i h4
            rw [if_neg h4] at h
            exact absurd rfl h

set_option maxRecDepth 20000 in
set_option maxHeartbeats 8000000 in
theorem laneTakes_walk {A : Nat → Addr} (v : Value) (zs : List OpV11) (w : World) (h : St11 A w) (hz : Ops11Arg w v zs) :
    Calls Tryd.prog 5 #[v] w fun e w' => e = .returned (.bool true) ∧ Below w.heap.size w w' := by
  obtain ⟨hz, hzb⟩ := hz
  obtain ⟨sa, cap, rfl, hlc, hcm, hat⟩ := hz
  have HAT := Aside.mk hat
  obtain ⟨M, hM⟩ : ∃ M, M = zs.length := ⟨_, rfl⟩
  rw [← hM] at hlc hzb ⊢
  have HM := Aside.mk hM
  have hMb : (M : Int) ≤ 5864062014634 := by omega
  have hMb' : M ≤ 5864062014634 := by omega
  have FX := Aside.mk (fixed_ok h)
  have G0 := Aside.mk (Gl.start h)
  clear h hM hcm hzb hat
  go_enter Tryd.func5, Tryd.ntmps5
  go_upto_region 4 with (first
    | (go_at_call 8; refine FX.it.mono ?_; rintro e w1 ⟨rfl, k1⟩; have NW := Aside.mk (newX (G0.it.quiet k1.it)))
    | (go_at_call 9; refine NW.it.mono ?_; rintro e w2 ⟨p, own2, rfl, L2⟩)
    | fail)
  clear FX NW k1 G0
  go_wp2_with fail
  go_loopw [17] (fun i wr => ∃ (k : Nat) (L : List Tk) (own : Nat → Nat), i = .int .i64 k ∧ k ≤ M ∧ Aside (Ln A w own wr p L k)) (fun i _ => M - (intOf i).toNat)
  case atStart => exact ⟨0, [], own2, rfl, Nat.zero_le _, L2⟩
  case round =>
    clear L2
    obtain ⟨k, L, own, rfl, hk, HL⟩ := hrel
    rcases Nat.eq_or_lt_of_le hk with rfl | hlt
    · go_wp2
      all_goals first
        | (exfalso; omega)
        | skip
      go_ret
      exact ⟨rfl, HL.it.g.g.bel⟩
    · have hlk := HL.it.bound
      obtain ⟨o, ho⟩ : ∃ o, zs[k]? = some o := ⟨_, List.getElem?_eq_getElem (by rw [← HM.it]; exact hlt)⟩
      obtain ⟨sb, so, cs, rfl, ⟨hcs, hwide⟩, _, hc⟩ := HAT.it k o ho
      subst hcs
      have hbel := HL.it.g.g.bel
      have ev0 : ∀ {q v}, w.cell? q = some v → wr.cell? q = some v := fun {q v} h => by rw [World.cell?_of_block (hbel.block _ (World.block_lt_of_cell? w _ h))]; exact h
      have r0 := hc 0 (by decide)
      have r1 := hc 1 (by decide)
      have r2 := hc 2 (by decide)
      have r3 := hc 3 (by decide)
      simp only [OpV11.cells, List.getElem?_cons_zero, List.getElem?_cons_succ, Nat.add_zero] at r0 r1 r2 r3
      replace r0 := ev0 r0
      replace r1 := ev0 r1
      replace r2 := ev0 r2
      replace r3 := ev0 r3
      have HW := Aside.mk hwide
      have i2 : (k : Int) < M := by omega
      have i3 : (0 : Int) ≤ k := by omega
      clear ho hc hwide ev0 hbel
      go_upto_region 7 with fail
      all_goals (try (exfalso; omega))
      obtain ⟨W1, hW1⟩ : ∃ W1, W1 = wr.alloc (.cells #[.int .i64 o.kind, .int .i64 o.t.k, .int .u32 o.t.s, .int .u32 o.t.v] 32) := ⟨_, rfl⟩
      rw [← hW1]
      have k1 : Keeps Nowhere wr W1 := by rw [hW1]; exact (Keeps.refl _ _).alloc _
      have B1 : Aside (CellsO (give own wr.heap.size 9) 9 W1 wr.heap.size 32 o.cells) := ⟨by rw [hW1]; exact Cells.new _ _ _, give_new (Nat.le_refl _)⟩
      have L1 := Aside.mk (HL.it.sn (I := fun _ => False) (Sn.quiet k1 9) (fun x => x) (fun _ _ x => x))
      have LS := Aside.mk (listX L1.it (by omega))
      clear hW1 k1 HL r0 r1 r2 r3
      go_upto_region 8 with (first | (go_at_call 13; refine LS.it.mono ?_; rintro e w2 ⟨vw, rfl, o2, k2⟩) | fail)
      generalize wr.heap.size = b at B1 L1 ⊢
      have s2 : Sn (fun _ => False) (give own b 9) W1 (give (give own b 9) W1.heap.size 9) w2 := Sn.quiet k2.it 9
      have B2 := Aside.mk (B1.it.sn s2 (fun x => x))
      have L2 := Aside.mk (L1.it.sn s2 (fun x => x) (fun _ _ x => x))
      have R2 : Aside (RdO9 (give (give own b 9) W1.heap.size 9) w2 vw L) := ⟨owns_readsK o2.it, fun k hk => ⟨give_new (owns_base o2.it k hk), owns_lt o2.it k hk⟩⟩
      generalize give (give own b 9) W1.heap.size 9 = own2 at B2 L2 R2
      clear s2 o2 k2 L1 B1 LS
      obtain ⟨qa, ca, hvw, hla, hma, hAt⟩ := R2.it.1.at
      subst hvw
      obtain ⟨N, hN⟩ : ∃ N, N = L.length := ⟨_, rfl⟩
      rw [← hN] at R2 hla hlk ⊢
      have HN := Aside.mk hN
      have HA := Aside.mk hAt
      have hn1 : (N : Int) ≤ 5864062014634 := by omega
      have BB := Aside.mk B2.it.1.lt
      clear hN hAt hma
      go_wp2_with fail
      go_loopw [7, 8, 25] (fun lv nv iv wx => ∃ (j n : Nat) (la : Option Addr) (ln lc : Nat), lv = .slice la ln lc ∧ nv = .int .i64 n ∧ iv = .int .i64 j ∧ j ≤ N ∧ Aside (n = (resG o.kind o.t.k o.t.s (L.take j)).2 ∧ n ≤ j) ∧ Aside (wx.ownsRow w2.heap.size 30 3 (.slice la ln lc) (resG o.kind o.t.k o.t.s (L.take j)).1.length (flatT (resG o.kind o.t.k o.t.s (L.take j)).1)) ∧ Aside (Keeps Nowhere w2 wx)) (fun _ _ iv _ => N - (intOf iv).toNat)
      case atStart => exact ⟨0, 0, none, 0, 0, rfl, rfl, rfl, Nat.zero_le _, ⟨rfl, Nat.le_refl _⟩, ⟨World.ownsRow_nil _ _ _ _⟩, ⟨Keeps.refl _ _⟩⟩
      case round =>
        obtain ⟨j, n, la, ln, lc, rfl, rfl, rfl, hj, Hn, HO, HK⟩ := hrel
        rcases Nat.eq_or_lt_of_le hj with rfl | hjlt
        · have etk : L.take j = L := by rw [HN.it, List.take_length]
          rw [etk] at Hn HO
          obtain ⟨LL, hLL⟩ : ∃ LL, LL = (resG o.kind o.t.k o.t.s L).1 := ⟨_, rfl⟩
          have RES : Aside (LL = (resG o.kind o.t.k o.t.s L).1 ∧ n = (resG o.kind o.t.k o.t.s L).2) := ⟨hLL, Hn.it.1⟩
          rw [← hLL] at HO
          have s3 : Sn (fun _ => False) own2 w2 (give own2 w2.heap.size 9) wr := Sn.quiet HK.it 9
          have X3 : Aside (Tx A w p L k b o (.slice qa j ca) L (.slice la ln lc) LL (give own2 w2.heap.size 9) wr) := ⟨⟨L2.it.sn s3 (fun x => x) (fun _ _ x => x), B2.it.sn s3 (fun x => x), R2.it.sn s3 (fun x => x), owns_readsK HO.it, fun k hk => ⟨give_new (owns_base HO.it k hk), owns_lt HO.it k hk⟩⟩⟩
          generalize give own2 w2.heap.size 9 = own3 at X3
          have hnj : (n : Int) ≤ j := by have := Hn.it.2; omega
          clear s3 HO HK Hn etk hLL L2 B2 R2 HA BB
          obtain ⟨d0, d1, d2, d3⟩ := Tx.cells X3
          go_upto_region 18 with fail
          all_goals (try (exfalso; omega))
          by_cases k0 : o.kind = 0
          · rw [k0] at d0
            have PX := Aside.mk (putX X3.it.l o.t HW.it (by omega))
            by_cases hp : (putL L o.t).2 = 0
            · rw [hp] at PX
              go_upto_region 31 with (first
                | (go_at_call 16; refine PX.it.mono ?_; rintro e w4 ⟨x4, own4, rfl, hx4, L4, S4⟩; have e4 := Coded.zero hx4; subst e4; have X4 := Tx.sn X3 S4.it L4.it)
                | fail)
              go_wp2_with (first
                | (go_at_call 11; refine (tx_len X4).mono ?_; rintro e w7 ⟨rfl, X7⟩)
                | (go_at_call 13; refine (tx_list X7 (by omega)).mono ?_; rintro e w8 ⟨v8, rfl, R8, X8⟩; obtain ⟨q8, c8, e8, _, _, _⟩ := R8.it.at; subst e8)
                | fail)
              go_roundw
              case rel => exact ⟨k + 1, _, _, by go_num, by omega, ⟨X8.it.l⟩⟩
              case measure => (simp only [intOf]; omega)
            · have hpf := putL_fail L o.t hp
              rw [hpf] at PX
              go_upto_region 31 with (first
                | (go_at_call 16; refine PX.it.mono ?_; rintro e w4 ⟨x4, own4, rfl, hx4, L4, S4⟩; obtain ⟨a4, e4⟩ := Coded.pos hx4 (by omega); subst e4; have X4' := Tx.sn X3 S4.it L4.it)
                | (go_at_call 13; refine (tx_list X4' (by omega)).mono ?_; rintro e w5 ⟨v5, rfl, R5, X5⟩)
                | (go_at_call 12; refine (tx_was X5 v5 R5).mono ?_; rintro e w6 ⟨rfl, X4⟩)
                | fail)
              go_wp2_with (first
                | (go_at_call 11; refine (tx_len X4).mono ?_; rintro e w7 ⟨rfl, X7⟩)
                | (go_at_call 13; refine (tx_list X7 (by omega)).mono ?_; rintro e w8 ⟨v8, rfl, R8, X8⟩; obtain ⟨q8, c8, e8, _, _, _⟩ := R8.it.at; subst e8)
                | fail)
              go_roundw
              case rel => exact ⟨k + 1, _, _, by go_num, by omega, ⟨X8.it.l⟩⟩
              case measure => (simp only [intOf]; omega)
          · have k0' : (o.kind == 0) = false := by simpa using k0
            by_cases k2 : o.kind = 2
            · have hr := fold2 o.t.k o.t.s L ([], 0)
              rw [if_pos rfl, List.nil_append] at hr
              have RR := RES.it
              rw [k2, resG, hr] at RR
              obtain ⟨rfl, hn⟩ := RR
              simp only at hn
              rw [k2] at d0
              have WX := Aside.mk (withdrawX X3.it.l (by omega) o.t.k o.t.s HW.it.s1)
              clear RES hr k0 k0' k2
              cases hany : L.any (isT o.t.k o.t.s) with
              | true =>
                rw [hany, if_pos rfl] at hn
                rw [hany] at WX
                subst hn
                clear hany
                go_upto_region 31 with (first
                  | (go_at_call 18; refine WX.it.mono ?_; rintro e w4 ⟨own4, rfl, L4, S4⟩; have X4' := Tx.sn X3 S4.it L4.it)
                  | (go_at_call 13; refine (tx_list X4' (by omega)).mono ?_; rintro e w5 ⟨v5, rfl, R5, X5⟩)
                  | (go_at_call 12; refine (tx_left X5 v5 R5).mono ?_; rintro e w6 ⟨rfl, X4⟩)
                  | fail)
                go_wp2_with (first
                  | (go_at_call 11; refine (tx_len X4).mono ?_; rintro e w7 ⟨rfl, X7⟩)
                  | (go_at_call 13; refine (tx_list X7 (by omega)).mono ?_; rintro e w8 ⟨v8, rfl, R8, X8⟩; obtain ⟨q8, c8, e8, _, _, _⟩ := R8.it.at; subst e8)
                  | fail)
                go_roundw
                case rel => exact ⟨k + 1, _, _, by go_num, by omega, ⟨(Tx.more X8).it.l⟩⟩
                case measure => (simp only [intOf]; omega)
              | false =>
                rw [hany, if_neg (by simp)] at hn
                rw [hany] at WX
                subst hn
                clear hany
                go_upto_region 31 with (first
                  | (go_at_call 18; refine WX.it.mono ?_; rintro e w4 ⟨own4, rfl, L4, S4⟩; have X4' := Tx.sn X3 S4.it L4.it)
                  | (go_at_call 13; refine (tx_list X4' (by omega)).mono ?_; rintro e w5 ⟨v5, rfl, R5, X5⟩)
                  | (go_at_call 12; refine (tx_left X5 v5 R5).mono ?_; rintro e w6 ⟨rfl, X4⟩)
                  | fail)
                go_wp2_with (first
                  | (go_at_call 11; refine (tx_len X4).mono ?_; rintro e w7 ⟨rfl, X7⟩)
                  | (go_at_call 13; refine (tx_list X7 (by omega)).mono ?_; rintro e w8 ⟨v8, rfl, R8, X8⟩; obtain ⟨q8, c8, e8, _, _, _⟩ := R8.it.at; subst e8)
                  | fail)
                go_roundw
                case rel => exact ⟨k + 1, _, _, by go_num, by omega, ⟨(Tx.more X8).it.l⟩⟩
                case measure => (simp only [intOf]; omega)
            · have k2' : (o.kind == 2) = false := by simpa using k2
              by_cases k3 : o.kind = 3
              · have hr := fold3 o.t.k o.t.s L ([], 0)
                rw [List.nil_append, Nat.zero_add] at hr
                have RR := RES.it
                rw [k3, resG, hr] at RR
                obtain ⟨rfl, hn⟩ := RR
                simp only at hn
                rw [k3] at d0
                have WX := Aside.mk (forgetX X3.it.l (by omega) o.t.s)
                rw [← hn] at WX
                clear RES hr k0 k0' k2 k2' k3 hn
                go_upto_region 31 with (first
                  | (go_at_call 19; refine WX.it.mono ?_; rintro e w4 ⟨own4, rfl, L4, S4⟩; have X4' := Tx.sn X3 S4.it L4.it)
                  | (go_at_call 13; refine (tx_list X4' (by omega)).mono ?_; rintro e w5 ⟨v5, rfl, R5, X5⟩)
                  | (go_at_call 12; refine (tx_left X5 v5 R5).mono ?_; rintro e w6 ⟨rfl, X4⟩)
                  | fail)
                go_wp2_with (first
                  | (go_at_call 11; refine (tx_len X4).mono ?_; rintro e w7 ⟨rfl, X7⟩)
                  | (go_at_call 13; refine (tx_list X7 (by omega)).mono ?_; rintro e w8 ⟨v8, rfl, R8, X8⟩; obtain ⟨q8, c8, e8, _, _, _⟩ := R8.it.at; subst e8)
                  | fail)
                go_roundw
                case rel => exact ⟨k + 1, _, _, by go_num, by omega, ⟨(Tx.more X8).it.l⟩⟩
                case measure => (simp only [intOf]; omega)
              · have k3' : (o.kind == 3) = false := by simpa using k3
                by_cases k4 : o.kind = 4
                · have hr := fold4 o.t.k o.t.s L ([], 0)
                  rw [Nat.zero_add] at hr
                  have RR := RES.it
                  rw [k4, resG, hr] at RR
                  obtain ⟨_, hn⟩ := RR
                  simp only at hn
                  rw [k4] at d0
                  have WX := Aside.mk (clearX X3.it.l (by omega))
                  rw [← hn] at WX
                  clear RES hr k0 k0' k2 k2' k3 k3' k4 hn
                  go_upto_region 31 with (first
                    | (go_at_call 20; refine WX.it.mono ?_; rintro e w4 ⟨own4, rfl, L4, S4⟩; have X4' := Tx.sn X3 S4.it L4.it)
                    | (go_at_call 11; refine (tx_len X4').mono ?_; rintro e w5 ⟨rfl, X4⟩)
                    | fail)
                  go_wp2_with (first
                    | (go_at_call 11; refine (tx_len X4).mono ?_; rintro e w7 ⟨rfl, X7⟩)
                    | (go_at_call 13; refine (tx_list X7 (by omega)).mono ?_; rintro e w8 ⟨v8, rfl, R8, X8⟩; obtain ⟨q8, c8, e8, _, _, _⟩ := R8.it.at; subst e8)
                    | fail)
                  go_roundw
                  case rel => exact ⟨k + 1, _, _, by go_num, by omega, ⟨(Tx.more X8).it.l⟩⟩
                  case measure => (simp only [intOf]; omega)
                · have k4' : (o.kind == 4) = false := by simpa using k4
                  have X4 := X3
                  go_upto_region 31 with fail
                  go_wp2_with (first
                    | (go_at_call 11; refine (tx_len X4).mono ?_; rintro e w7 ⟨rfl, X7⟩)
                    | (go_at_call 13; refine (tx_list X7 (by omega)).mono ?_; rintro e w8 ⟨v8, rfl, R8, X8⟩; obtain ⟨q8, c8, e8, _, _, _⟩ := R8.it.at; subst e8)
                    | fail)
                  go_roundw
                  case rel => exact ⟨k + 1, _, _, by go_num, by omega, ⟨(Tx.more X8).it.l⟩⟩
                  case measure => (simp only [intOf]; omega)
        · obtain ⟨t, ht⟩ : ∃ t, L[j]? = some t := ⟨_, List.getElem?_eq_getElem (by rw [← HN.it]; exact hjlt)⟩
          obtain ⟨g, oo, rfl, a0, a1, a2⟩ := HA.it j t ht
          have ev : ∀ {q v}, w2.cell? q = some v → wr.cell? q = some v := fun {q v} h => by rw [World.cell?_of_block (HK.it.block _ (World.block_lt_of_cell? w2 _ h) (fun x => x))]; exact h
          have c0 := ev a0
          have c1 := ev a1
          have c2 := ev a2
          have l1 : (j : Int) < N := by omega
          have l2 : (0 : Int) ≤ j := by omega
          have RT := Aside.mk (resG_take o.kind o.t.k o.t.s L j t ht)
          have hnj : (n : Int) ≤ j := by have := Hn.it.2; omega
          clear a0 a1 a2 ev ht
          go_upto_region 13 with fail
          all_goals (try (exfalso; omega))
          obtain ⟨W3, hW3⟩ : ∃ W3, W3 = wr.alloc (tbox t.k t.s t.v) := ⟨_, rfl⟩
          rw [show wr.alloc (.cells #[.int .i64 t.k, .int .u32 t.s, .int .u32 t.v] 30) = W3 from hW3.symm]
          have T3 : Aside (Cells W3 wr.heap.size 30 (tcells t)) := ⟨by rw [hW3]; exact tbox_new _ _ _ _⟩
          have K3 : Aside (Keeps Nowhere w2 W3) := ⟨by rw [hW3]; exact HK.it.alloc _⟩
          have O3 : Aside (W3.ownsRow w2.heap.size 30 3 (.slice la ln lc) (resG o.kind o.t.k o.t.s (L.take j)).1.length (flatT (resG o.kind o.t.k o.t.s (L.take j)).1)) := ⟨by rw [hW3]; exact owns_later HO.it ((Keeps.refl Nowhere _).alloc _) (fun _ _ x => x)⟩
          have b3 := B2.it.1.later K3.it (fun x => x)
          have d0 : W3.cell? ⟨b, 0, none⟩ = some (.int .i64 o.kind) := by rw [b3.cell]; rfl
          have d1 : W3.cell? ⟨b, 1, none⟩ = some (.int .i64 o.t.k) := by rw [b3.cell]; rfl
          have d2 : W3.cell? ⟨b, 2, none⟩ = some (.int .u32 o.t.s) := by rw [b3.cell]; rfl
          obtain ⟨t0, t1, t2⟩ := TB.of T3.it
          clear hW3 HO HK c0 c1 c2 b3
          generalize wr.heap.size = tb at T3 t0 t1 t2 ⊢
          go_cut [11] from 26 to 77 (fun gv wx => gv = .bool (goneB o.kind o.t.k o.t.s n t) ∧ wx = W3)
          case first =>
            by_cases k4 : o.kind = 4
            · rw [k4] at d0
              go_wp2_with fail
              go_meet
              case rel => exact ⟨by simp [goneB, k4], rfl⟩
            · have k4' : (o.kind == 4) = false := by simpa using k4
              by_cases k3 : o.kind = 3
              · rw [k3] at d0
                by_cases hs : (t.s : Int) = o.t.s
                · have hs' : ((t.s : Int) == o.t.s) = true := by simpa using hs
                  go_wp2_with fail
                  go_meet
                  case rel => exact ⟨by simp [goneB, k3, show t.s = o.t.s by omega], rfl⟩
                · have hs' : ((t.s : Int) == o.t.s) = false := by simpa using hs
                  go_wp2_with fail
                  go_meet
                  case rel => exact ⟨by simp [goneB, k3, show ¬ t.s = o.t.s by omega], rfl⟩
              · have k3' : (o.kind == 3) = false := by simpa using k3
                by_cases k2 : o.kind = 2
                · rw [k2] at d0
                  by_cases hn0 : (n : Int) = 0
                  · have hn0' : ((n : Int) == 0) = true := by simpa using hn0
                    by_cases hk0 : t.k = o.t.k
                    · have hk0' : (t.k == o.t.k) = true := by simpa using hk0
                      by_cases hs : (t.s : Int) = o.t.s
                      · have hs' : ((t.s : Int) == o.t.s) = true := by simpa using hs
                        go_wp2_with fail
                        go_meet
                        case rel => exact ⟨by simp [goneB, k2, isT, hk0, show n = 0 by omega, show t.s = o.t.s by omega], rfl⟩
                      · have hs' : ((t.s : Int) == o.t.s) = false := by simpa using hs
                        go_wp2_with fail
                        go_meet
                        case rel => exact ⟨by simp [goneB, k2, isT, show ¬ t.s = o.t.s by omega], rfl⟩
                    · have hk0' : (t.k == o.t.k) = false := by simpa using hk0
                      go_wp2_with fail
                      go_meet
                      case rel => exact ⟨by simp [goneB, k2, isT, hk0], rfl⟩
                  · have hn0' : ((n : Int) == 0) = false := by simpa using hn0
                    go_wp2_with fail
                    go_meet
                    case rel => exact ⟨by simp [goneB, k2, show ¬ n = 0 by omega], rfl⟩
                · have k2' : (o.kind == 2) = false := by simpa using k2
                  go_wp2_with fail
                  go_meet
                  case rel => exact ⟨by simp [goneB, k4, k3, k2], rfl⟩
          case rest =>
            obtain ⟨rfl, hwc⟩ := hcut
            subst hwc
            have hrl : Aside ((resG o.kind o.t.k o.t.s (L.take j)).1.length ≤ j) := ⟨(resG_len o.kind o.t.k o.t.s L j (by have := HN.it; omega)).1⟩
            have hg0 : goneB o.kind o.t.k o.t.s (resG o.kind o.t.k o.t.s (L.take j)).2 t = goneB o.kind o.t.k o.t.s n t := by rw [← Hn.it.1]
            cases hg : goneB o.kind o.t.k o.t.s n t with
            | true =>
              have RT2 : Aside (resG o.kind o.t.k o.t.s (L.take (j + 1)) = ((resG o.kind o.t.k o.t.s (L.take j)).1, (resG o.kind o.t.k o.t.s (L.take j)).2 + 1)) := ⟨by rw [RT.it, stepG, hg0, hg, if_pos rfl]⟩
              clear hg hg0 d0 d1 d2
              go_wp2
              go_roundw
              case rel => exact ⟨j + 1, n + 1, la, ln, lc, rfl, by go_num, by go_num, by omega, ⟨by rw [RT2.it, ← Hn.it.1], by have := Hn.it.2; omega⟩, ⟨by rw [RT2.it]; exact O3.it⟩, K3⟩
              case measure => (simp only [intOf]; omega)
            | false =>
              have RT2 : Aside (resG o.kind o.t.k o.t.s (L.take (j + 1)) = ((resG o.kind o.t.k o.t.s (L.take j)).1 ++ [t], (resG o.kind o.t.k o.t.s (L.take j)).2)) := ⟨by rw [RT.it, stepG, hg0, hg, if_neg (by simp)]⟩
              clear hg hg0 d0 d1 d2
              go_wp2_with (at_builtin; refine wpList_appendR rfl (.tmp 73) (.tmp 75) 26 rfl 30 (.agg #[.int .i64 0, .int .u32 0, .int .u32 0]) 3 16 Tryd.underlying26 infoT rfl (by decide) wc ((Keeps.refl _ _).alloc _) w2.heap.size _ _ _ O3.it _ 1 (tcells t) (readsK_new _ _ (tcells t)) (by simp [tcells, Value.oneCell']) (by have h2 := hrl.it; omega) (by unfold maxLen; have h2 := hrl.it; omega) K3.it.size rfl rfl ?_; intro v' w' o' k' b'; obtain ⟨g0, g1, g2, hv'⟩ := owns_shapeK o'.it; subst hv')
              go_roundw
              case rel =>
                refine ⟨j + 1, n, g0, g1, g2, rfl, rfl, by go_num, by omega, ⟨by rw [RT2.it, ← Hn.it.1], by have := Hn.it.2; omega⟩, ⟨?_⟩, ⟨?_⟩⟩
                · rw [RT2.it, flatT_snoc, List.length_append]
                  exact o'.it
                · exact (K3.it.alloc _).next k'.it (fun b hb hlt => by have := owns_base O3.it b hb; omega)
              case measure => (simp only [intOf]; omega)
end Go.Proofs.YtialmmobkmdfpaaDoor
