/-
  RobinKeys: the walk
-/
import Derived.Test.YtekokdfajbajoaaDoorRkQ
namespace Go.Proofs.YtekokdfajbajoaaDoor
open Go.RowKit Rbkey

set_option maxHeartbeats 8000000 in
set_option maxRecDepth 20000 in
theorem robinKeys_walk (v : Value) (zs : List OpV12) (w : World) (hs : PowT w) (hz : Ops12Arg w v zs) : Calls Tryd.prog 3 #[v] w fun e w' => e = .returned (.bool true) ∧ Below w.heap.size w w' := by
  obtain ⟨hz, hzb⟩ := hz
  obtain ⟨sa, cap, rfl, hlc, hcm, hat⟩ := hz
  have HA := Aside.mk hat
  obtain ⟨M, hM⟩ : ∃ M, M = zs.length := ⟨_, rfl⟩
  rw [← hM] at hlc hzb ⊢
  have HM := Aside.mk hM
  have hMb : M ≤ 8796093021952 := by omega
  have WK := Aside.mk (wakes12 w)
  have HP := Aside.mk hs
  clear hM hcm hzb hat hs
  go_enter Tryd.func3, Tryd.ntmps3
  go_upto_region 4 with (first
    | (go_at_call 4; refine WK.it.mono ?_; clear WK; rintro e w1 ⟨rfl, K1⟩; have NW := Aside.mk (Rbkey.newO (fun _ => 0) 1 w1))
    | (go_at_call 5; refine NW.it.mono ?_; clear NW; rintro e w2 ⟨r, rfl, R2⟩)
    | fail)
  have X2 : Aside (∃ own2, Kx w own2 w2 r [] (.slice none 0 0) []) := ⟨by
    have g1 : Ground w.heap.size w (fun _ => 0) w1 := ⟨fun _ _ => rfl, K1.it, K1.it.size⟩
    exact ⟨_, g1.step (R2.it.1.any (S := fun _ => 0 = 1)) (by decide) 1, HP.it, R2.it.2, ⟨none, 0, rfl, Nat.le_refl _, Nat.zero_le _, fun k z hz => (by simp at hz)⟩, fun b hb => (by cases hb)⟩⟩
  clear R2 K1 HP
  go_wp2_with fail
  go_loopw [4, 5] (fun lv iv wr => ∃ (m : Nat) (ks : List Int) (own : Nat → Nat) (qa : Option Addr) (qc : Nat), lv = .slice qa ks.length qc ∧ iv = .int .i64 m ∧ m ≤ M ∧ ks.length ≤ m ∧ Aside (Kx w own wr r ks (.slice qa ks.length qc) ks)) (fun _ iv _ => M - (intOf iv).toNat)
  case atStart =>
    obtain ⟨own2, X⟩ := X2.it
    exact ⟨0, [], own2, none, 0, rfl, rfl, Nat.zero_le _, Nat.le_refl _, ⟨X⟩⟩
  case round =>
    clear X2
    obtain ⟨m, ks, own, qa, qc, rfl, rfl, hm, hkm, X⟩ := hrel
    by_cases hlt : m < M
    · have hlt' : (m : Int) < (M : Int) := by omega
      obtain ⟨xb, xo, kind, k, rfl, hk, r0, r1⟩ := op_at (m := m) HA.it (by have := HM.it; omega) X.it.g.bel
      go_upto_region 9 with fail
      obtain ⟨g, hg⟩ : ∃ g, g = wr.heap.size := ⟨_, rfl⟩
      obtain ⟨w4, hw4⟩ : ∃ w4, w4 = wr.alloc (.cells #[.int .i64 kind, .int .i64 k] 31) := ⟨_, rfl⟩
      have k4 : Keeps Nowhere wr w4 := by rw [hw4]; exact (Keeps.refl _ _).alloc _
      have hc : Cells w4 g 31 [.int .i64 kind, .int .i64 k] := by rw [hw4, hg]; exact Cells.new wr _ _
      have X4 := Aside.mk (X.it.quiet k4)
      rw [← hg, ← hw4]
      have HG := Aside.mk hg
      have B4 : Aside (Bx w4 g kind k w4) := ⟨⟨Keeps.refl _ _, hc⟩⟩
      clear hg k4 hc hw4 r0 r1 HA X
      have B4d := Bx.next B4 (Keeps.refl _ _).drew
      have B4a := Bx.next B4 ((Keeps.refl _ _).alloc (.cells #[.string ⟨#[]⟩, .int .u32 0] 28)).drew
      have hp4 := powT_later X4.it.pow X4.it.g.bel
      have IT := Aside.mk (bx_itoa hp4 B4d k hk)
      have IU : Aside (Calls Tryd.prog 6 #[.int .i64 k] (w4.alloc (.cells #[.string ⟨#[]⟩, .int .u32 0] 28)).drew fun e w' => e = .returned (.string ⟨(Lib.itoa k).toArray⟩) ∧ Aside (Bx w4 g kind k w') ∧ Aside (Cells w' w4.heap.size 28 [.string ⟨#[]⟩, .int .u32 0]) ∧ w'.cell? ⟨w4.heap.size, 0, none⟩ = some (.string ⟨#[]⟩) ∧ w'.cell? ⟨w4.heap.size, 1, none⟩ = some (.int .u32 0) ∧ ∀ j, w'.frozen? ⟨w4.heap.size, j, none⟩ = false) := ⟨by
        refine (itoaK (powT_later hp4 B4a.it.keeps.bel) k hk).mono ?_
        rintro e w' ⟨rfl, kk⟩
        have c6 := (Cells.drew (Cells.new w4 28 [.string ⟨#[]⟩, .int .u32 0])).later kk (fun x => x)
        exact ⟨rfl, Bx.next B4a kk, ⟨c6⟩, c6.cell 0, c6.cell 1, c6.frozen⟩⟩
      clear hp4
      obtain ⟨ib, hib, hbx, hsz⟩ := kt_of k hk
      rw [hib] at IT IU
      clear hib
      obtain ⟨nx, hnx, hcnv⟩ := kn_of k
      have HB := Aside.mk (And.intro hbx hnx)
      clear hbx hnx
      have NG : g ≠ w4.heap.size := by have := B4.it.cells.lt; omega
      go_cut [7] (fun kv wx => ∃ gk, kv = ptr gk ∧ Aside (Bx w4 g kind k wx ∧ Cells wx gk 28 [kt k, kn k]))
      case first =>
        go_region_held_law (fun w' => w'.cell? ⟨g, 1, none⟩ = some (.int .i64 k)) (first | exact Bx.k1 (by with_reducible assumption) | exact alloc_cell _ (Bx.k1 (by with_reducible assumption)) | exact set2_cell NG (Bx.k1 (by with_reducible assumption))) (first
          | (go_at_call 6; with_reducible refine IT.it.mono ?_; rintro e w6 ⟨rfl, B6⟩)
          | (go_at_call 6; with_reducible refine IU.it.mono ?_; rintro e w6 ⟨rfl, B6, C6, q0, q1, q2⟩))
        all_goals go_wp2_with fail
        all_goals first
          | (go_meet
             case rel => exact ⟨w6.heap.size, rfl, ⟨(Bx.next B6 ((Keeps.refl _ _).alloc _)).it, by rw [HB.it.1, HB.it.2]; exact Cells.new w6 _ _⟩⟩)
          | (go_meet
             case rel => exact ⟨w4.heap.size, rfl, ⟨Bx.fresh B6 (Nat.le_refl _) NG _ _, by rw [HB.it.1, HB.it.2]; exact (C6.it.setCell 0 _).setCell 1 _⟩⟩)
      case rest =>
        obtain ⟨gk, rfl, Y⟩ := hcut
        clear IT IU B4 B4d B4a NG hcnv hsz HB
        have b0 : wc.cell? ⟨g, 0, none⟩ = some (.int .i64 kind) := Y.it.1.cells.cell 0
        have b1 : wc.cell? ⟨g, 1, none⟩ = some (.int .i64 k) := Y.it.1.cells.cell 1
        have X5 := Aside.mk (X4.it.quiet Y.it.1.keeps)
        clear X4
        by_cases e1 : kind = 1
        · subst e1
          have CA := Aside.mk (add12 hk X5.it.li (by omega))
          go_upto_region 15 with (first | (go_at_call 7; refine CA.it.mono ?_; clear CA; rintro e w7 ⟨v7, rfl, K7, L7⟩) | fail)
          have X7 := Aside.mk (X5.it.ref K7.it L7.it)
          have y7 := Y.it.2.later K7.it (fun x => x)
          have d0 : w7.cell? ⟨gk, 0, none⟩ = some (kt k) := y7.cell 0
          have d1 : w7.cell? ⟨gk, 1, none⟩ = some (kn k) := y7.cell 1
          have AD := Aside.mk (Rbkey.addO (k := k) X7.it.rb hk (by unfold maxLen; omega))
          obtain ⟨a7, c7, e7, _⟩ := X7.it.li.shape
          subst e7
          have LE : (addL ks k).length ≤ ks.length + 1 := by unfold addL; split <;> simp
          clear y7 L7 K7 X5 Y
          go_wp2_with (first | (go_at_call 8; refine AD.it.mono ?_; clear AD; rintro e w8 ⟨rfl, R8⟩) | fail)
          exact ⟨⟨m + 1, addL ks k, _, a7, c7, rfl, by go_num, by omega, by omega, ⟨X7.it.rbs R8.it⟩⟩, by simp [intOf]; omega⟩
        by_cases e2 : kind = 2
        · subst e2
          have CA := Aside.mk (remove12 k X5.it.li (by omega))
          go_upto_region 18 with (first | (go_at_call 9; refine CA.it.mono ?_; clear CA; rintro e w7 ⟨v7, rfl, K7, L7⟩) | fail)
          have X7 := Aside.mk (X5.it.ref K7.it L7.it)
          have y7 := Y.it.2.later K7.it (fun x => x)
          have d0 : w7.cell? ⟨gk, 0, none⟩ = some (kt k) := y7.cell 0
          have d1 : w7.cell? ⟨gk, 1, none⟩ = some (kn k) := y7.cell 1
          have AD := Aside.mk (Rbkey.removeO (k := k) X7.it.rb hk)
          obtain ⟨a7, c7, e7, _⟩ := X7.it.li.shape
          subst e7
          have LE : (remL ks k).length ≤ ks.length := List.length_erase_le
          clear y7 L7 K7 X5 Y
          go_wp2_with (first | (go_at_call 10; refine AD.it.mono ?_; clear AD; rintro e w8 ⟨rfl, R8⟩) | fail)
          exact ⟨⟨m + 1, remL ks k, _, a7, c7, rfl, by go_num, by omega, by omega, ⟨X7.it.rbs R8.it⟩⟩, by simp [intOf]; omega⟩
        by_cases e3 : kind = 3
        · subst e3
          have CA := Aside.mk (next12 X5.it.li (by omega))
          go_upto_region 22 with (first | (go_at_call 11; refine CA.it.mono ?_; clear CA; rintro e w7 ⟨v7, rfl, K7, L7⟩) | fail)
          have X7 := Aside.mk (X5.it.ref K7.it L7.it)
          generalize give own wc.heap.size 2 = own7 at X7
          obtain ⟨a7, c7, e7, _⟩ := X7.it.li.shape
          subst e7
          clear L7 K7 X5 Y
          obtain ⟨g12, hg12⟩ : ∃ g12, g12 = w7.heap.size := ⟨_, rfl⟩
          obtain ⟨w8, hw8⟩ : ∃ w8, w8 = w7.alloc (.cells #[.string ⟨#[]⟩, .int .u32 0] 28) := ⟨_, rfl⟩
          have k8 : Keeps Nowhere w7 w8 := by rw [hw8]; exact (Keeps.refl _ _).alloc _
          have c8 : CellsO (give own7 w7.heap.size 3) 3 w8 g12 28 [.string ⟨#[]⟩, .int .u32 0] := ⟨by rw [hw8, hg12]; exact Cells.new w7 _ _, give_new (by omega)⟩
          have x8 : Kx w (give own7 w7.heap.size 3) w8 r ks (.slice a7 (rotL ks).length c7) (rotL ks) := X7.it.sn (I := fun _ => False) (Sn.quiet k8 _) (fun _ _ x => x)
          generalize give own7 w7.heap.size 3 = own8 at c8 x8
          have NX := Aside.mk (Rbkey.nextO x8.rb)
          have X8 := Aside.mk (And.intro x8 c8)
          clear k8 c8 x8 X7
          go_upto_region 23 with fail
          rw [← hg12, ← hw8]
          clear hg12 hw8 b0 b1
          have KR : Aside (∀ (W : World) (H : Keeps (fun c => own8 c = 1) w8 W ∧ RbO (give own8 w8.heap.size 1) 1 W r (rotL ks)), Kx w (give own8 w8.heap.size 1) W r (rotL ks) (.slice a7 (rotL ks).length c7) (rotL ks) ∧ CellsO (give own8 w8.heap.size 1) 3 W g12 28 [.string ⟨#[]⟩, .int .u32 0]) := ⟨fun W H => by
            have s : Sn (fun k => k = 1) own8 w8 (give own8 w8.heap.size 1) W := Sn.by H.1 _
            exact ⟨X8.it.1.rbs H, X8.it.2.sn s (by decide)⟩⟩
          have KS : Aside (∀ (W : World) (own9 : Nat → Nat) (x y : Value), Kx w own9 W r (rotL ks) (.slice a7 (rotL ks).length c7) (rotL ks) → CellsO own9 3 W g12 28 [.string ⟨#[]⟩, .int .u32 0] → ∃ own', Kx w own' ((W.setCell ⟨g12, 0, none⟩ x).setCell ⟨g12, 1, none⟩ y) r (rotL ks) (.slice a7 (rotL ks).length c7) (rotL ks)) := ⟨fun W own9 x y hx hc => by
            have kk : Keeps (fun c => own9 c = 3) W ((W.setCell ⟨g12, 0, none⟩ x).setCell ⟨g12, 1, none⟩ y) := ((Keeps.refl (fun c => own9 c = 3) W).setCell ⟨g12, 0, none⟩ x (fun _ => hc.2)).setCell ⟨g12, 1, none⟩ y (fun _ => hc.2)
            exact ⟨_, hx.sn (I := fun k => k = 3) (Sn.by kk 3) (fun k h e => by omega)⟩⟩
          have X8b : Aside (∀ z ∈ ks, -9223372036854775808 ≤ z ∧ z ≤ 9223372036854775807) := ⟨by
            obtain ⟨mb, l, kf, pf, nf, h, _, _, _, rfl⟩ := X8.it.1.rb
            intro z hz
            obtain ⟨b, hb, rfl⟩ := List.mem_map.1 hz
            exact h.ky b hb⟩
          clear X8
          cases ks with
          | nil =>
            rw [nk_nil, some1_nil] at NX
            rw [some1_nil, frst_nil]
            go_upto_region 24 with (first | (go_at_call 12; refine NX.it.mono ?_; clear NX; rintro e w9 ⟨rfl, R9⟩; obtain ⟨X9, C9⟩ := KR.it _ R9.it; have q0 : w9.cell? ⟨g12, 0, none⟩ = some (.string ⟨#[]⟩) := C9.1.cell 0; have q1 : w9.cell? ⟨g12, 1, none⟩ = some (.int .u32 0) := C9.1.cell 1; have q2 : ∀ j, w9.frozen? ⟨g12, j, none⟩ = false := C9.1.frozen; have X9' := Aside.mk (And.intro X9 C9); clear X9 C9 KR R9) | fail)
            obtain ⟨own10, x10⟩ := KS.it _ _ (.string ⟨#[]⟩) (.int .u32 0) X9'.it.1 X9'.it.2
            have c10 := (X9'.it.2.1.setCell 0 (.string ⟨#[]⟩)).setCell 1 (.int .u32 0)
            have X10 := Aside.mk x10
            generalize (w9.setCell ⟨g12, 0, none⟩ (.string ⟨#[]⟩)).setCell ⟨g12, 1, none⟩ (.int .u32 0) = w10 at *
            have d0 : w10.cell? ⟨g12, 0, none⟩ = some (.string ⟨#[]⟩) := c10.cell 0
            have d1 : w10.cell? ⟨g12, 1, none⟩ = some (.int .u32 0) := c10.cell 1
            have EQ := key_same ⟨#[]⟩ 0
            clear x10 c10 X9' KS q0 q1 q2
            go_quiet (fail)
            go_wp2_with fail
            exact ⟨⟨m + 1, [], own10, a7, c7, rfl, by go_num, by omega, by simp, ⟨X10.it.quiet ((Keeps.refl _ _).drewN _)⟩⟩, by simp [intOf]; omega⟩
          | cons x t =>
            have xb := X8b.it x List.mem_cons_self
            obtain ⟨ib', hib, hbx, hsz⟩ := kt_of x xb
            obtain ⟨nx', hnx, hcnv⟩ := kn_of x
            rw [nk_cons, some1_cons, hbx, hnx] at NX
            rw [some1_cons, frst_cons]
            go_upto_region 24 with (first | (go_at_call 12; refine NX.it.mono ?_; clear NX; rintro e w9 ⟨rfl, R9⟩; obtain ⟨X9, C9⟩ := KR.it _ R9.it; have q0 : w9.cell? ⟨g12, 0, none⟩ = some (.string ⟨#[]⟩) := C9.1.cell 0; have q1 : w9.cell? ⟨g12, 1, none⟩ = some (.int .u32 0) := C9.1.cell 1; have q2 : ∀ j, w9.frozen? ⟨g12, j, none⟩ = false := C9.1.frozen; have X9' := Aside.mk (And.intro X9 C9); clear X9 C9 KR R9) | fail)
            obtain ⟨own10, x10⟩ := KS.it _ _ (.string ((⟨#[107]⟩ : ByteArray) ++ ib')) (.int .u32 nx') X9'.it.1 X9'.it.2
            have c10 := (X9'.it.2.1.setCell 0 (.string ((⟨#[107]⟩ : ByteArray) ++ ib'))).setCell 1 (.int .u32 nx')
            have X10 := Aside.mk x10
            generalize (w9.setCell ⟨g12, 0, none⟩ (.string ((⟨#[107]⟩ : ByteArray) ++ ib'))).setCell ⟨g12, 1, none⟩ (.int .u32 nx') = w10 at *
            have c10 : Cells w10 g12 28 [.string ((⟨#[107]⟩ : ByteArray) ++ ib'), .int .u32 nx'] := c10
            have IT := Aside.mk (kb_itoa (g := g12) (x := .string ((⟨#[107]⟩ : ByteArray) ++ ib')) (y := .int .u32 nx') (powT_later x10.pow x10.g.bel) x xb)
            rw [hib] at IT
            have EQ := key_same ((⟨#[107]⟩ : ByteArray) ++ ib') nx'
            have d0 : ∀ n : KbW w10 g12 (.string ((⟨#[107]⟩ : ByteArray) ++ ib')) (.int .u32 nx'), n.W.cell? ⟨g12, 0, none⟩ = some (.string ((⟨#[107]⟩ : ByteArray) ++ ib')) := fun n => n.ok.cells.cell 0
            have d1 : ∀ n : KbW w10 g12 (.string ((⟨#[107]⟩ : ByteArray) ++ ib')) (.int .u32 nx'), n.W.cell? ⟨g12, 1, none⟩ = some (.int .u32 nx') := fun n => n.ok.cells.cell 1
            haveI : Nonempty (KbW w10 g12 (.string ((⟨#[107]⟩ : ByteArray) ++ ib')) (.int .u32 nx')) := ⟨⟨w10.drew, ⟨(Keeps.refl _ _).drew, c10.drew⟩⟩⟩
            refine wp_region_quietF (KbW.W (w1 := w10) (g := g12) (x := .string ((⟨#[107]⟩ : ByteArray) ++ ib')) (y := .int .u32 nx')) (by kernel_rfl) (by kernel_rfl) ⟨w10.drew, ⟨(Keeps.refl _ _).drew, c10.drew⟩⟩ rfl ?_
            clear x10 c10 X9' KS q0 q1 q2 hib hbx hnx
            repeat (go_big_quiet_step (first | (go_at_call 6; exact IT.it _)))
            refine wpQuiet_nil ?_
            rintro _ ⟨n11, rfl⟩
            have X11 := Aside.mk (X10.it.quiet n11.ok.keeps)
            generalize n11.W = w11 at *
            clear d0 d1 IT
            go_wp2_with fail
            have hrl : (rotL (x :: t)).length = t.length + 1 := by simp [rotL]
            rw [List.length_cons] at hkm
            exact ⟨⟨m + 1, rotL (x :: t), own10, a7, c7, rfl, by go_num, by omega, by omega, X11⟩, by simp [intOf]; omega⟩
        go_wp2_with fail
        exact ⟨⟨m + 1, ks, own, qa, qc, rfl, by go_num, by omega, by omega, X5⟩, by simp [intOf]; omega⟩
    · obtain rfl : m = M := by omega
      have LS := Aside.mk (Rbkey.listO X.it.rb (by omega))
      go_upto_region 30 with (first | (go_at_call 13; refine LS.it.mono ?_; clear LS; rintro e w20 ⟨lv, rfl, L20⟩) | fail)
      have X20 := Aside.mk (X.it.quiet L20.it.1)
      obtain ⟨la, el, hla⟩ := L20.it.2
      subst el
      obtain ⟨qa', qc', eq', hqa⟩ := X20.it.li.shape
      have KY : Aside (∀ z ∈ ks, -9223372036854775808 ≤ z ∧ z ≤ 9223372036854775807) := ⟨X20.it.li.bounds⟩
      obtain ⟨rfl, rfl⟩ : qa = qa' ∧ qc = qc' := by injection eq' with h1 _ h3; exact ⟨h1, h3⟩
      have HL := Aside.mk hla
      have HQ := Aside.mk hqa
      have PW := Aside.mk (powT_later X20.it.pow X20.it.g.bel)
      obtain ⟨N, hN⟩ : ∃ N, N = ks.length := ⟨_, rfl⟩
      rw [← hN] at hkm ⊢
      have HN := Aside.mk hN
      have hNb : (N : Int) ≤ 8796093021952 := by omega
      clear hla hqa L20 X eq' hN
      go_wp2_with fail
      go_loopw [14] (fun iv wx => ∃ j : Nat, iv = .int .i64 j ∧ j ≤ N ∧ Aside (Keeps Nowhere w20 wx)) (fun iv _ => N - (intOf iv).toNat)
      case atStart => exact ⟨0, rfl, Nat.zero_le _, ⟨Keeps.refl _ _⟩⟩
      case round =>
        obtain ⟨j, rfl, hj, K⟩ := hrel
        by_cases hjl : j < N
        · have hjl' : (j : Int) < (N : Int) := by omega
          obtain ⟨z, hz⟩ : ∃ z, ks[j]? = some z := ⟨_, List.getElem?_eq_getElem (by have := HN.it; omega)⟩
          obtain ⟨lg, rfl, h0, h1⟩ := HL.it j z hz
          obtain ⟨qb, qo, rfl, h2⟩ := HQ.it j z hz
          have zb := KY.it z (List.mem_of_getElem? hz)
          have f0 := KeW.cell ((World.cell?_of_block (K.it.block _ (World.block_lt_of_cell? w20 _ h0) (fun x => x))).trans h0)
          have f1 := KeW.cell ((World.cell?_of_block (K.it.block _ (World.block_lt_of_cell? w20 _ h1) (fun x => x))).trans h1)
          have f2 := KeW.cell ((World.cell?_of_block (K.it.block _ (World.block_lt_of_cell? w20 _ h2) (fun x => x))).trans h2)
          obtain ⟨ib', hib, hbx, hsz⟩ := kt_of z zb
          obtain ⟨nx', hnx, hcnv⟩ := kn_of z
          rw [hbx] at f0
          rw [hnx] at f1
          have IT := Aside.mk (ke_itoa (powT_later PW.it K.it.bel) z zb)
          rw [hib] at IT
          have EQ := key_same ((⟨#[107]⟩ : ByteArray) ++ ib') nx'
          haveI : Nonempty (KeW wr) := ⟨⟨wr, Keeps.refl _ _⟩⟩
          clear hib hbx hnx h0 h1 h2 hz HL HQ
          go_upto_region 33 with fail
          refine wp_region_quietF (KeW.W (w1 := wr)) (by kernel_rfl) (by kernel_rfl) ⟨wr.drew, (Keeps.refl _ _).drew⟩ rfl ?_
          repeat (go_big_quiet_step (first | (go_at_call 6; exact IT.it _)))
          refine wpQuiet_nil ?_
          rintro _ ⟨n11, rfl⟩
          have K11 := Aside.mk (K.it.trans n11.ok)
          generalize n11.W = w11 at *
          clear f0 f1 f2 IT
          go_wp2_with fail
          exact ⟨⟨j + 1, by go_num, by omega, K11⟩, by simp [intOf]; omega⟩
        · obtain rfl : j = N := by omega
          have X21 := Aside.mk (X20.it.quiet K.it)
          have LN := Aside.mk (Rbkey.lenO X21.it.rb)
          rw [← HN.it] at LN
          go_wp2_with (first | (go_at_call 14; refine LN.it.mono ?_; clear LN; rintro e w22 ⟨rfl, rfl⟩) | fail)
          go_ret
          exact ⟨rfl, X21.it.g.bel⟩
end Go.Proofs.YtekokdfajbajoaaDoor
