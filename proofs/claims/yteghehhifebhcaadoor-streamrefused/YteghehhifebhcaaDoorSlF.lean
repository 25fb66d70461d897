/-
  layer 10's laws: behind, walked.
-/
import Derived.Test.YteghehhifebhcaaDoorSlE
namespace Go.Proofs.YteghehhifebhcaaDoor
open Go.RowKit

section
variable {own own' : Nat → Nat} {w w' w0 W W' : World} {p : Nat} {A : Nat → Addr} {d d' : Dm} {I : Nat → Prop}
theorem view_field7 (a0 a1 a2 a3 a4 a5 a6 a7 a8 a9 a10 : Value) (w : World) : Sem.run Tryd.prog (Instr.field 70 (.agg #[a0, a1, a2, a3, a4, a5, a6, a7, a8, a9, a10]) 7) w = .ok a7 w := by kernel_rfl
theorem bh_new (h : Aside (Bh A w0 p d own W)) (o : Obj) : Aside (Bh A w0 p d (give own W.heap.size 8) (W.alloc o)) := by
  have s : Sn (fun _ => False) own W (give own W.heap.size 8) (W.alloc o) := Sn.quiet ((Keeps.refl _ _).alloc _) 8
  exact ⟨h.it.st.sn s (fun _ _ _ x => x), h.it.g.sn s (fun x => x)⟩
theorem new_reads (xs : List Int) (fr : Nat × Nat) : ReadsOff (fun k => Five 1 (give own W.heap.size 8 k)) (W.alloc (.cells (bv xs).toArray 5 fr)) (.slice (some ⟨W.heap.size, 0, none⟩) xs.length xs.length) (bv xs) := by
  have := reads_mark (fun k => Five 1 (give own W.heap.size 8 k)) W 5 (bv xs) fr (by rw [give_new (Nat.le_refl _)]; unfold Five; omega)
  rw [bv_length] at this
  exact this
set_option maxRecDepth 100000 in
set_option maxHeartbeats 2000000 in
theorem behind10 (h : Aside (Bh A w0 p d own w)) (hd : d.drop = false) (cut : Bool) : Calls Tryd.prog 26 #[ptr p, .bool cut] w fun e w' => e = .returned (.bool true) ∧ ∃ d' own', Aside (Bh A w0 p d' own' w') := by
  have VF := view_field7 (.int .u32 d.id) (.int .i64 d.state) (.bool d.mine) (.bool d.acc) (.int .i64 d.staged.length) (.int .u32 d.vCredit) (.int .i64 d.vLeft) (.int .i64 d.unread.length) (.int .i64 d.vOwed) (.bool d.closing) (.bool d.told)
  have VW := Aside.mk (bh_view h)
  obtain ⟨U, hU⟩ : ∃ U, Aside (U = d.unread.length) := ⟨_, ⟨rfl⟩⟩
  rw [← hU.it] at VF VW
  rcases (Bool.eq_false_or_eq_true cut).symm with rfl | rfl
  · go_enter Tryd.func26, Tryd.ntmps26
    go_upto_region 7 with (first
      | (go_at_call 22; refine VW.it.mono ?_; rintro e w2 ⟨rfl, X2⟩)
      | (go_at_call 58; refine (bh_reset X2).mono ?_; rintro e w3 ⟨own3, rfl, X3⟩)
      | fail)
    have G := Aside.mk (gone_drop d)
    have kc := Lib.run_convert_bytes_const (P := Tryd.prog) w3 36 5 #[.int .u8 120] 1 1 Tryd.underlying36 Tryd.underlying5
    have X4 := bh_new X3 (.cells #[.int .u8 120] 5 (1, 2))
    have WR := Aside.mk (bh_write X4 G _ [120] (new_reads [120] (1, 2)) (by decide))
    go_upto_region 8 with (first
      | (go_at_call 17; refine WR.it.mono ?_; rintro e w5 ⟨v5, n5, own5, rfl, hv5, X5⟩)
      | fail)
    clear kc WR X4
    go_upto_region 10 with (first
      | (go_at_call 10; with_reducible refine (bh_code (by with_reducible assumption) hv7).mono ?_; rintro e w' ⟨rfl, hw⟩; subst hw)
      | (go_at_call 10; with_reducible refine (bh_code (by with_reducible assumption) hv6).mono ?_; rintro e w' ⟨rfl, hw⟩; subst hw)
      | (go_at_call 10; with_reducible refine (bh_code (by with_reducible assumption) hv5).mono ?_; rintro e w' ⟨rfl, hw⟩; subst hw)
      | (go_at_call 19; with_reducible refine (bh_close (by with_reducible assumption) G).mono ?_; rintro e w6 ⟨v6, own6, rfl, hv6, X6⟩)
      | (go_at_call 11; with_reducible refine (bh_accept (by with_reducible assumption) G).mono ?_; rintro e w7 ⟨v7, own7, rfl, hv7, X7⟩)
      | fail)
    have X8 := bh_new X7 (.cells #[.int .u8 0, .int .u8 0, .int .u8 0, .int .u8 0, .int .u8 0, .int .u8 0, .int .u8 0, .int .u8 0, .int .u8 0] 5)
    have AR := Aside.mk (bh_arrive X8 G (some ⟨w'.heap.size, 0, none⟩) 9 9 (List.replicate 9 0) rfl true (new_reads (List.replicate 9 0) (0, 0)))
    have RY := Aside.mk (bh_ready X7 G)
    have hmk : ∀ w, (Instr.makeSlice 36 (.int .i64 9) (.int .i64 9)).run Tryd.prog w = .ok (.slice (some ⟨w.heap.size, 0, none⟩) 9 9) (w.alloc (.cells #[.int .u8 0, .int .u8 0, .int .u8 0, .int .u8 0, .int .u8 0, .int .u8 0, .int .u8 0, .int .u8 0, .int .u8 0] 5)) := fun _ => by kernel_rfl
    go_upto_region 12 with (first
      | (go_at_call 45; refine RY.it.mono ?_; rintro e w8 ⟨rfl, hw⟩; subst hw)
      | (go_at_call 25; refine AR.it.mono ?_; rintro e w9 ⟨own9, rfl, X9⟩)
      | (go_at_call 20; refine (bh_grant X9 G 4294967295 (by decide) true).mono ?_; rintro e wA ⟨ownA, rfl, XA⟩)
      | fail)
    clear AR RY X8 X7
    have VA : Aside (Calls Tryd.prog 22 #[ptr p] wA fun e w' => e = .returned (.agg #[.int .u32 d.id, .int .i64 7, .bool d.mine, .bool d.acc, .int .i64 0, .int .u32 0, .int .i64 0, .int .i64 0, .int .i64 0, .bool d.closing, .bool d.told]) ∧ Aside (Bh A w0 p d.dropD ownA w')) := ⟨bh_view XA⟩
    go_upto_region 13 with (first
      | (go_at_call 22; refine VA.it.mono ?_; rintro e wB ⟨rfl, XB⟩)
      | fail)
    have XC := bh_new XB (.cells #[.int .u32 d.id, .int .i64 7, .bool d.mine, .bool d.acc, .int .i64 0, .int .u32 0, .int .i64 0, .int .i64 0, .int .i64 0, .bool d.closing, .bool d.told] 70)
    have bxc : Cells (wB.alloc (.cells #[.int .u32 d.id, .int .i64 7, .bool d.mine, .bool d.acc, .int .i64 0, .int .u32 0, .int .i64 0, .int .i64 0, .int .i64 0, .bool d.closing, .bool d.told] 70)) wB.heap.size 70 [.int .u32 d.id, .int .i64 7, .bool d.mine, .bool d.acc, .int .i64 0, .int .u32 0, .int .i64 0, .int .i64 0, .int .i64 0, .bool d.closing, .bool d.told] := Cells.new wB _ _
    have BX : Aside (CellsO (give ownA wB.heap.size 8) 8 (wB.alloc (.cells #[.int .u32 d.id, .int .i64 7, .bool d.mine, .bool d.acc, .int .i64 0, .int .u32 0, .int .i64 0, .int .i64 0, .int .i64 0, .bool d.closing, .bool d.told] 70)) wB.heap.size 70 [.int .u32 d.id, .int .i64 7, .bool d.mine, .bool d.acc, .int .i64 0, .int .u32 0, .int .i64 0, .int .i64 0, .int .i64 0, .bool d.closing, .bool d.told]) := ⟨bxc, give_new (Nat.le_refl _)⟩
    clear bxc
    generalize give ownA wB.heap.size 8 = ownC at XC BX
    generalize (wB.alloc (.cells #[.int .u32 d.id, .int .i64 7, .bool d.mine, .bool d.acc, .int .i64 0, .int .u32 0, .int .i64 0, .int .i64 0, .int .i64 0, .bool d.closing, .bool d.told] 70)) = wC at XC BX ⊢
    generalize wB.heap.size = q at BX ⊢
    have m1 : wC.cell? ⟨q, 1, none⟩ = some (.int .i64 7) := BX.it.1.cell 1
    have m4 : wC.cell? ⟨q, 4, none⟩ = some (.int .i64 0) := BX.it.1.cell 4
    have m5 : wC.cell? ⟨q, 5, none⟩ = some (.int .u32 0) := BX.it.1.cell 5
    have m6 : wC.cell? ⟨q, 6, none⟩ = some (.int .i64 0) := BX.it.1.cell 6
    have m8 : wC.cell? ⟨q, 8, none⟩ = some (.int .i64 0) := BX.it.1.cell 8
    have RDc : Aside (Calls Tryd.prog 24 #[ptr p, .int .i64 5] wC fun e w' => ∃ sq m v own', e = .returned (.tuple #[.slice sq m m, .int .u32 (d.dropD.rdG 5), v]) ∧ Hid (Coded A v 26) ∧ Aside (Bh A w0 p (d.dropD.rdD 5) own' w') ∧ w'.cell? ⟨q, 7, none⟩ = some (.int .i64 0) ∧ w'.cell? ⟨q, 1, none⟩ = some (.int .i64 7)) := ⟨by
      refine (read_at10 XC.it.st XC.it.g (Nat.le_refl 1) 5 9 (by unfold Five; omega)).mono ?_
      rintro e w' ⟨sq, m, v, rfl, _, hv, Y⟩
      obtain ⟨own', a, _, s⟩ := Y.it
      have BY := BX.it.sn s (by unfold Five; omega)
      obtain ⟨own', X⟩ := Bh.step XC ⟨own', a, s⟩
      exact ⟨sq, m, v, own', rfl, hv, X, BY.1.cell 7, BY.1.cell 1⟩⟩
    have hdn : Aside ((d.dropD.rdD 5).done = true) := ⟨by
      unfold Dm.rdD
      split <;> rfl⟩
    go_upto_region 17 with (first
      | (go_at_call 24; refine RDc.it.mono ?_; rintro e wD ⟨sq, mD, vD, ownD, rfl, hvD, XD, n7, n1⟩)
      | fail)
    have DN := Aside.mk (bh_done XD)
    rw [hdn.it] at DN
    have CD := Aside.mk (bh_code XD hvD)
    go_wp2_with (first
      | (go_at_call 38; refine DN.it.mono ?_; rintro e wE ⟨rfl, hw⟩; subst hw)
      | (go_at_call 10; refine CD.it.mono ?_; rintro e wE ⟨rfl, hw⟩; subst hw)
      | fail)
    go_ret
    exact ⟨rfl, _, _, XD⟩
  · go_enter Tryd.func26, Tryd.ntmps26
    go_upto_region 7 with (first
      | (go_at_call 22; refine VW.it.mono ?_; rintro e w2 ⟨rfl, X2⟩)
      | (go_at_call 57; refine (bh_cut X2).mono ?_; rintro e w3 ⟨own3, rfl, X3⟩)
      | fail)
    have G := Aside.mk (gone_cut d hd)
    have hdd : Aside (d.cutD = { d with cut := true, staged := [] }) := ⟨if_neg (by rw [hd]; decide)⟩
    have kc := Lib.run_convert_bytes_const (P := Tryd.prog) w3 36 5 #[.int .u8 120] 1 1 Tryd.underlying36 Tryd.underlying5
    have X4 := bh_new X3 (.cells #[.int .u8 120] 5 (1, 2))
    have WR := Aside.mk (bh_write X4 G _ [120] (new_reads [120] (1, 2)) (by decide))
    go_upto_region 8 with (first
      | (go_at_call 17; refine WR.it.mono ?_; rintro e w5 ⟨v5, n5, own5, rfl, hv5, X5⟩)
      | fail)
    clear kc WR X4
    go_upto_region 10 with (first
      | (go_at_call 10; with_reducible refine (bh_code (by with_reducible assumption) hv7).mono ?_; rintro e w' ⟨rfl, hw⟩; subst hw)
      | (go_at_call 10; with_reducible refine (bh_code (by with_reducible assumption) hv6).mono ?_; rintro e w' ⟨rfl, hw⟩; subst hw)
      | (go_at_call 10; with_reducible refine (bh_code (by with_reducible assumption) hv5).mono ?_; rintro e w' ⟨rfl, hw⟩; subst hw)
      | (go_at_call 19; with_reducible refine (bh_close (by with_reducible assumption) G).mono ?_; rintro e w6 ⟨v6, own6, rfl, hv6, X6⟩)
      | (go_at_call 11; with_reducible refine (bh_accept (by with_reducible assumption) G).mono ?_; rintro e w7 ⟨v7, own7, rfl, hv7, X7⟩)
      | fail)
    have X8 := bh_new X7 (.cells #[.int .u8 0, .int .u8 0, .int .u8 0, .int .u8 0, .int .u8 0, .int .u8 0, .int .u8 0, .int .u8 0, .int .u8 0] 5)
    have AR := Aside.mk (bh_arrive X8 G (some ⟨w'.heap.size, 0, none⟩) 9 9 (List.replicate 9 0) rfl true (new_reads (List.replicate 9 0) (0, 0)))
    have RY := Aside.mk (bh_ready X7 G)
    have hmk : ∀ w, (Instr.makeSlice 36 (.int .i64 9) (.int .i64 9)).run Tryd.prog w = .ok (.slice (some ⟨w.heap.size, 0, none⟩) 9 9) (w.alloc (.cells #[.int .u8 0, .int .u8 0, .int .u8 0, .int .u8 0, .int .u8 0, .int .u8 0, .int .u8 0, .int .u8 0, .int .u8 0] 5)) := fun _ => by kernel_rfl
    go_upto_region 12 with (first
      | (go_at_call 45; refine RY.it.mono ?_; rintro e w8 ⟨rfl, hw⟩; subst hw)
      | (go_at_call 25; refine AR.it.mono ?_; rintro e w9 ⟨own9, rfl, X9⟩)
      | (go_at_call 20; refine (bh_grant X9 G 4294967295 (by decide) true).mono ?_; rintro e wA ⟨ownA, rfl, XA⟩)
      | fail)
    clear AR RY X8 X7
    have VA : Aside (Calls Tryd.prog 22 #[ptr p] wA fun e w' => e = .returned (.agg #[.int .u32 d.cutD.id, .int .i64 d.cutD.state, .bool d.cutD.mine, .bool d.cutD.acc, .int .i64 0, .int .u32 0, .int .i64 0, .int .i64 U, .int .i64 0, .bool d.cutD.closing, .bool d.cutD.told]) ∧ Aside (Bh A w0 p d.cutD ownA w')) := ⟨by
      have := bh_view XA
      obtain ⟨v1, v2, v3, v4⟩ := G.it.v
      rw [v1, v2, v3, v4, show d.cutD.unread = d.unread by rw [hdd.it], ← hU.it] at this
      exact this⟩
    go_upto_region 13 with (first
      | (go_at_call 22; refine VA.it.mono ?_; rintro e wB ⟨rfl, XB⟩)
      | fail)
    have XC := bh_new XB (.cells #[.int .u32 d.cutD.id, .int .i64 d.cutD.state, .bool d.cutD.mine, .bool d.cutD.acc, .int .i64 0, .int .u32 0, .int .i64 0, .int .i64 U, .int .i64 0, .bool d.cutD.closing, .bool d.cutD.told] 70)
    have BX : Aside (Cells (wB.alloc (.cells #[.int .u32 d.cutD.id, .int .i64 d.cutD.state, .bool d.cutD.mine, .bool d.cutD.acc, .int .i64 0, .int .u32 0, .int .i64 0, .int .i64 U, .int .i64 0, .bool d.cutD.closing, .bool d.cutD.told] 70)) wB.heap.size 70 [.int .u32 d.cutD.id, .int .i64 d.cutD.state, .bool d.cutD.mine, .bool d.cutD.acc, .int .i64 0, .int .u32 0, .int .i64 0, .int .i64 U, .int .i64 0, .bool d.cutD.closing, .bool d.cutD.told]) := ⟨Cells.new wB _ _⟩
    generalize give ownA wB.heap.size 8 = ownC at XC
    generalize (wB.alloc (.cells #[.int .u32 d.cutD.id, .int .i64 d.cutD.state, .bool d.cutD.mine, .bool d.cutD.acc, .int .i64 0, .int .u32 0, .int .i64 0, .int .i64 U, .int .i64 0, .bool d.cutD.closing, .bool d.cutD.told] 70)) = wC at XC BX ⊢
    generalize wB.heap.size = q at BX ⊢
    have m4 : wC.cell? ⟨q, 4, none⟩ = some (.int .i64 0) := BX.it.cell 4
    have m5 : wC.cell? ⟨q, 5, none⟩ = some (.int .u32 0) := BX.it.cell 5
    have m6 : wC.cell? ⟨q, 6, none⟩ = some (.int .i64 0) := BX.it.cell 6
    have m7 : wC.cell? ⟨q, 7, none⟩ = some (.int .i64 U) := BX.it.cell 7
    have m8 : wC.cell? ⟨q, 8, none⟩ = some (.int .i64 0) := BX.it.cell 8
    have HE : Aside (Calls Tryd.prog 39 #[ptr p] wC fun e w' => e = .returned (.int .i64 U) ∧ ∃ m, w' = wC.drewN m) := ⟨by
      have := bh_held XC
      rw [show d.cutD.held = U by rw [hU.it, hdd.it]; unfold Dm.held; simp] at this
      exact this⟩
    go_wp2_with (first
      | (go_at_call 39; refine HE.it.mono ?_; rintro e wE ⟨rfl, mE, rfl⟩)
      | fail)
    go_ret
    exact ⟨rfl, _, _, Bh.quiet XC ((Keeps.refl _ _).drewN mE)⟩
end
end Go.Proofs.YteghehhifebhcaaDoor
