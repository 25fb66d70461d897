/-
  culvertlaw19.step: Move; every way (written by gen_PqF.py)
-/
import Derived.Test.YtpmmjekaefemeaaDoorPqG
namespace Go.Proofs.YtpmmjekaefemeaaDoor
open Go.RowKit

section
variable {A : Nat → Addr} {own own' own2 : Nat → Nat} {w w' w0 W : World} {Lp b ALL ns AN : List Int} {v sl vn : Value} {i p ps G bx nb GN : Nat} {cut cp cn : Bool} {I : Nat → Prop} {kd n : Int}

/-- and what the document's Move has answered -/
structure Sz (own : Nat → Nat) (i : Nat) (w : World) (own' : Nat → Nat) (W : World) (p : Nat) (Lp : List Int) (ps : Nat) (cp : Bool) (bx : Nat) (v : Value) (ALL : List Int) (G : Nat) (cut : Bool) (kd : Int) (sl : Value) (ns : List Int) (n : Int) (nb : Nat) (vn : Value) (AN : List Int) (GN : Nat) (cn : Bool) (x : Value) (T : List Int) : Prop where
  y : Sy own i w own' W p Lp ps cp bx v ALL G cut kd sl ns n nb vn AN GN cn
  d : RdO own' (i + 4) W x T
  hi : 10 ≤ i
theorem Sx.next2 {x : Value} {T : List Int} (h : Sx own i w own' W p Lp ps cp bx v ALL G cut kd sl ns n) (hk : Keeps Nowhere W w') (hd : RdO (give own' W.heap.size (i + 4)) (i + 4) w' vn AN) (hx : RdO (give own' W.heap.size (i + 4)) (i + 4) w' x T) : ∃ own2, Sy own i w own2 (w'.alloc (dzc vn GN cn)) p Lp ps cp bx v ALL G cut kd sl ns n w'.heap.size vn AN GN cn ∧ RdO own2 (i + 4) (w'.alloc (dzc vn GN cn)) x T := by
  have h' := h.step hk (i + 4)
  obtain ⟨r0, r1, r2, h2⟩ := h'.c2
  refine ⟨give (give own' W.heap.size (i + 4)) w'.heap.size 8, ⟨h'.step ((Keeps.refl _ _).alloc _) 8, hd.sn (I := fun _ => False) (Sn.quiet ((Keeps.refl _ _).alloc _) 8) (fun x => x), ⟨Cells.new w' _ [vn, .int .i64 GN, .bool cn], give_new (Nat.le_refl _)⟩, ?_⟩, hx.sn (I := fun _ => False) (Sn.quiet ((Keeps.refl _ _).alloc _) 8) (fun x => x)⟩
  have := h2.1.lt
  omega
theorem str_run {x : Value} {T : List Int} {S : ByteArray} (h : Rd W x T) (hS : Aside (strOf T = S)) : (convert 26 9 x).run Tryd.prog W = .ok (.string S) W := by
  have sc := run_bytesStr (P := Tryd.prog) W 26 9 5 _ _ Tryd.underlying26 Tryd.underlying5 Tryd.underlying9 h.holds
  rw [hS.it] at sc
  exact sc
theorem Sz.cells {x : Value} {T : List Int} {S : ByteArray} (h : Aside (Sz own i w own' W p Lp ps cp bx v ALL G cut kd sl ns n nb vn AN GN cn x T)) (hS : Aside (strOf T = S)) : (W.cell? ⟨nb, 0, none⟩ = some vn ∧ W.cell? ⟨nb, 1, none⟩ = some (.int .i64 GN) ∧ W.cell? ⟨nb, 2, none⟩ = some (.bool cn) ∧ W.cell? ⟨bx + 1, 1, none⟩ = some sl ∧ W.cell? ⟨bx + 1, 2, none⟩ = some (.int .i64 n)) ∧ (convert 26 9 x).run Tryd.prog W = .ok (.string S) W :=
  ⟨Sy.cells ⟨h.it.y⟩, str_run h.it.d.1 hS⟩
theorem Sz.cellsS {x : Value} {T : List Int} {S : ByteArray} (h : Aside (Sz own i w own' W p Lp ps cp bx v ALL G cut kd sl ns n nb vn AN GN cn x T)) (hS : Aside (strOf T = S)) {y0 y1 y2 : Value} :
    ((((W.setCell ⟨bx + 1 + 1, 0, none⟩ y0).setCell ⟨bx + 1 + 1, 1, none⟩ y1).setCell ⟨bx + 1 + 1, 2, none⟩ y2).cell? ⟨nb, 0, none⟩ = some vn ∧ (((W.setCell ⟨bx + 1 + 1, 0, none⟩ y0).setCell ⟨bx + 1 + 1, 1, none⟩ y1).setCell ⟨bx + 1 + 1, 2, none⟩ y2).cell? ⟨nb, 1, none⟩ = some (.int .i64 GN) ∧ (((W.setCell ⟨bx + 1 + 1, 0, none⟩ y0).setCell ⟨bx + 1 + 1, 1, none⟩ y1).setCell ⟨bx + 1 + 1, 2, none⟩ y2).cell? ⟨nb, 2, none⟩ = some (.bool cn) ∧
    (((W.setCell ⟨bx + 1 + 1, 0, none⟩ y0).setCell ⟨bx + 1 + 1, 1, none⟩ y1).setCell ⟨bx + 1 + 1, 2, none⟩ y2).cell? ⟨bx + 1, 1, none⟩ = some sl ∧ (((W.setCell ⟨bx + 1 + 1, 0, none⟩ y0).setCell ⟨bx + 1 + 1, 1, none⟩ y1).setCell ⟨bx + 1 + 1, 2, none⟩ y2).cell? ⟨bx + 1, 2, none⟩ = some (.int .i64 n)) ∧ (convert 26 9 x).run Tryd.prog (((W.setCell ⟨bx + 1 + 1, 0, none⟩ y0).setCell ⟨bx + 1 + 1, 1, none⟩ y1).setCell ⟨bx + 1 + 1, 2, none⟩ y2) = .ok (.string S) (((W.setCell ⟨bx + 1 + 1, 0, none⟩ y0).setCell ⟨bx + 1 + 1, 1, none⟩ y1).setCell ⟨bx + 1 + 1, 2, none⟩ y2) := by
  refine ⟨Sy.cellsS ⟨h.it.y⟩, str_run (h.it.d.1.keep (S := fun k => k = bx + 1 + 1) ((((Keeps.refl (fun k => k = bx + 1 + 1) W).setCell ⟨bx + 1 + 1, 0, none⟩ y0 (fun _ => rfl)).setCell ⟨bx + 1 + 1, 1, none⟩ y1 (fun _ => rfl)).setCell ⟨bx + 1 + 1, 2, none⟩ y2 (fun _ => rfl)) (fun g hg e => ?_)) hS⟩
  obtain ⟨r0, r1, r2, h2⟩ := h.it.y.x.c2
  have h3 := (h.it.d.2 g hg).2
  rw [e, h2.2] at h3
  have := h.it.hi
  omega
theorem sz_move {x : Value} {T : List Int} {S : ByteArray} {G2 : Nat} (hi : 10 ≤ i) (h : Aside (Sz own i w own' W p Lp ps cp bx v ALL G cut kd sl ns n nb vn AN GN cn x T)) (hL : Lp.length ≤ 2199023255551) (m : Int) (hT : Aside (Lp.take m.toNat = T)) (hS : Aside (strOf T = S)) {L2 : List Int} (hU : Aside (Lp.drop m.toNat = L2 ∧ (ps + T.length) % 18446744073709551616 = G2)) :
    Calls Tryd.prog 14 #[ptr p, .int .i64 m] W fun e w' => ∃ a l c own2, e = .returned (.slice a l c) ∧ (convert 26 9 (.slice a l c)).run Tryd.prog w' = .ok (.string S) w' ∧ (∀ y0 y1 y2, (convert 26 9 (.slice a l c)).run Tryd.prog (((w'.setCell ⟨bx + 1 + 1, 0, none⟩ y0).setCell ⟨bx + 1 + 1, 1, none⟩ y1).setCell ⟨bx + 1 + 1, 2, none⟩ y2) = .ok (.string S) (((w'.setCell ⟨bx + 1 + 1, 0, none⟩ y0).setCell ⟨bx + 1 + 1, 1, none⟩ y1).setCell ⟨bx + 1 + 1, 2, none⟩ y2)) ∧ Aside (Sz own i w own2 w' p L2 G2 cp bx v ALL G cut kd sl ns n nb vn AN GN cn x T) := by
  refine (move19 h.it.y.x.t m hL (i + 5)).mono ?_
  rintro e w' ⟨a, l, c, own2, rfl, K⟩
  obtain ⟨k1, k2, k3, k4⟩ := K.it
  rw [hT.it] at k1 k3
  rw [hU.it.1, hU.it.2] at k3
  have e4 : ¬ I19 i (i + 4) := by show ¬ (_ ∨ _ ∨ _); omega
  have hy := h.it.y.prog hi k3 k4
  refine ⟨a, l, c, own2, rfl, str_run k1.rd hS, fun y0 y1 y2 => str_run (k1.rd.keep (S := fun k => k = bx + 1 + 1) ((((Keeps.refl (fun k => k = bx + 1 + 1) w').setCell ⟨bx + 1 + 1, 0, none⟩ y0 (fun _ => rfl)).setCell ⟨bx + 1 + 1, 1, none⟩ y1 (fun _ => rfl)).setCell ⟨bx + 1 + 1, 2, none⟩ y2 (fun _ => rfl)) (fun g hg e => ?_)) hS, ⟨hy, h.it.d.sn k4 e4, h.it.hi⟩⟩
  obtain ⟨r0, r1, r2, h2⟩ := hy.x.c2
  have h3 := k1.2 g hg
  rw [e, h2.2] at h3
  omega
set_option maxRecDepth 20000 in
set_option maxHeartbeats 4000000 in
theorem step19_2 (own : Nat → Nat) (w : World) (hg : OnG A w0 own w) (h : Tp own i w p v ALL G cut) (ho : RdQ own 0 w sl ns) (hi : 10 ≤ i) (hm : ALL.length + ns.length ≤ 2199023255551) (n : Int) :
    Calls Tryd.prog 10 #[ptr p, dz v G cut, .agg #[.int .i64 2, sl, .int .i64 n]] w fun e w' => Ends19 own i w p (ALL.length + ns.length) e w' := by
  have X := Aside.mk (Sx.start h ho 2 n)
  have HG := Aside.mk hg
  obtain ⟨ra, rc, hra⟩ := h.slc
  subst hra
  obtain ⟨sa, sc, hsa⟩ := ho.shape
  subst hsa
  have HGG := Aside.mk h.g
  have HI := Aside.mk hi
  have HM := Aside.mk hm
  obtain ⟨N, hN⟩ : ∃ N, ALL.length = N := ⟨_, rfl⟩
  have HN := Aside.mk hN
  obtain ⟨B, hB⟩ : ∃ B, ns.length = B := ⟨_, rfl⟩
  have HB := Aside.mk hB
  rw [hN, hB] at X
  rw [hN, hB]
  obtain ⟨bx, hb⟩ : ∃ bx, w.heap.size = bx := ⟨_, rfl⟩
  obtain ⟨W1, hW1⟩ : ∃ W1, (((w.alloc (dzc (.slice ra N rc) G cut)).alloc (opc 2 (.slice sa B sc) n)).alloc (dzc (.slice none 0 0) 0 false)) = W1 := ⟨_, rfl⟩
  rw [hW1] at X
  obtain ⟨own1, hown1⟩ : ∃ own1, give own w.heap.size 8 = own1 := ⟨_, rfl⟩
  rw [hown1, hb] at X
  have e0 : Aside (¬ I19 i 0) := ⟨by show ¬ (_ ∨ _ ∨ _); omega⟩
  have G1 := Aside.mk (HG.it.sn X.it.n e0.it)
  obtain ⟨k0, k1, k2, k3, k4, k5⟩ := Sx.cells X
  obtain ⟨r0, r1, r2, k6, k7, k8, k9, k10, k11⟩ := Sx.res X
  clear hg h hi hm ho hN hB hown1
  go_enter Tryd.func10, Tryd.ntmps10
  go_upto_region 1 with fail
  clear hW1 hb
  have hNm : N ≤ 2199023255551 := by have := HM.it; have := HN.it; omega
  have hGN : G ≤ N := by have := HGG.it; have := HN.it; omega
  have DM := Aside.mk (dmove (w := W1) (G := G) (.slice ra N rc) X.it.d.1 HGG.it (by rw [HN.it]; exact hNm) cut n)
  have hUL := und_le (ALL := ALL) (G := G) (cut := cut)
  have HUL : Aside ((und ALL G cut).length ≤ 2199023255551) := ⟨by have := HN.it; omega⟩
  have hUG := und_len (ALL := ALL) (G := G) (cut := cut)
  obtain ⟨T, hT⟩ : ∃ T, (und ALL G cut).take n.toNat = T := ⟨_, rfl⟩
  have HT := Aside.mk hT
  have hTl : G + T.length ≤ N := by have := congrArg List.length hT; rw [List.length_take] at this; have := HN.it; have := HGG.it; omega
  obtain ⟨S, hS⟩ : ∃ S, Aside (strOf T = S) := ⟨_, ⟨rfl⟩⟩
  rw [hT] at DM
  obtain ⟨G2, hG2⟩ : ∃ G2, Aside (G + T.length = G2) := ⟨_, ⟨rfl⟩⟩
  rw [hG2.it] at DM hTl
  have UD : Aside ((und ALL G cut).drop n.toNat = und ALL G2 cut ∧ (G + T.length) % 18446744073709551616 = G2) := ⟨by rw [und_drop, hT, hG2.it], by rw [hG2.it]; omega⟩
  clear hT hUG
  go_upto_region 8 with (first
    | (go_at_call 21; refine DM.it.mono ?_; clear DM k0 k1 k2 k3 k4 k5 k6 k7 k8 k9 k10 k11; rintro e w2 ⟨xa, xc, xl, rfl, X2⟩)
    | fail)
  obtain ⟨own3, Y3, D3⟩ := X.it.next2 (vn := .slice ra N rc) (AN := ALL) (GN := G2) (cn := cut) X2.it.k (X.it.d.sn (I := fun _ => False) (Sn.quiet X2.it.k (i + 4)) (fun x => x)) (X2.it.rowB own1 (i + 4)).rdO
  have Y3 := Aside.mk Y3
  have D3 := Aside.mk D3
  clear X
  generalize (w2.alloc (dzc (.slice ra N rc) G2 cut)) = W3 at Y3 D3 ⊢
  generalize w2.heap.size = nb at Y3 ⊢
  have Yd := Aside.mk (show Sz own i w own3 W3.drew p (und ALL G cut) G cut bx (.slice ra N rc) ALL G cut 2 (.slice sa B sc) ns n nb (.slice ra N rc) ALL G2 cut (.slice xa xl xc) T from ⟨Y3.it.quiet (Keeps.refl _ _).drew, D3.it.sn (I := fun _ => False) (Sn.same (Keeps.refl _ _).drew) (fun x => x), HI.it⟩)
  clear Y3 D3
  go_region_held_law (fun w' => (w'.cell? ⟨nb, 0, none⟩ = some (.slice ra N rc) ∧ w'.cell? ⟨nb, 1, none⟩ = some (.int .i64 G2) ∧ w'.cell? ⟨nb, 2, none⟩ = some (.bool cut) ∧ w'.cell? ⟨bx + 1, 1, none⟩ = some (.slice sa B sc) ∧ w'.cell? ⟨bx + 1, 2, none⟩ = some (.int .i64 n)) ∧ (convert 26 9 (.slice xa xl xc)).run Tryd.prog w' = .ok (.string S) w') (first | with_reducible exact Sz.cells (by with_reducible assumption) hS | with_reducible exact Sz.cellsS (by with_reducible assumption) hS) (first
    | (go_at_call 14; with_reducible refine (sz_move HI.it (by with_reducible assumption) HUL.it n HT hS UD).mono ?_; rintro e w4 ⟨ga, gl, gc, own4, rfl, sc4, sc5', P4⟩; have sc5 := sc5' (.slice ra N rc) (.int .i64 G2) (.bool cut); clear sc5'; have P4x := Aside.mk P4.it.y.x; obtain ⟨r0, r1, r2, k6, k7, k8, k9, k10, k11⟩ := Sx.res P4x)
    | fail)
  all_goals
    obtain ⟨F, hF, z0, z1, z2, EF⟩ := Sx.fin (m := N + B) (ALL2 := ALL) (G2 := G2) (cut2 := cut) HI.it P4x ⟨P4.it.y.d⟩ (by have := HN.it; omega) (by have := HN.it; omega)
    rw [← hF]
    go_wp2
    refine bodyPost_ret (v := .tuple #[dz (.slice ra N rc) ((G2 : Nat) : Int) cut, .bool true]) (by simp [results, Tryd.results10, go_sem, z0, z1, z2]) rfl ?_
    first | exact EF.it | exact EF.it.drew
theorem step19 (own : Nat → Nat) (w : World) (hg : OnG A w0 own w) (h : Tp own i w p v ALL G cut) (ho : RdQ own 0 w sl ns) (hi : 10 ≤ i) (hm : ALL.length + ns.length ≤ 2199023255551) (n : Int) (kd : Int) :
    Calls Tryd.prog 10 #[ptr p, dz v G cut, .agg #[.int .i64 kd, sl, .int .i64 n]] w fun e w' => Ends19 own i w p (ALL.length + ns.length) e w' := by
  by_cases h1 : kd = 1
  · subst h1
    cases cut
    · exact step19_1 own w hg h ho hi hm n
    · exact step19_1c own w hg h ho hi hm n
  by_cases h2 : kd = 2
  · subst h2; exact step19_2 own w hg h ho hi hm n
  by_cases h3 : kd = 3
  · subst h3
    obtain ⟨a, c, hv⟩ := h.slc
    subst hv
    refine (step19_3 own w hg h ho hi hm n).mono ?_
    rintro e w' ⟨own', rfl, X⟩
    exact ⟨_, _, _, _, _, own', rfl, ⟨ALL, by omega, X.it.1, X.it.2⟩⟩
  by_cases h4 : kd = 4
  · subst h4; exact step19_4 own w hg h ho hi hm n
  exact step19_other own w hg h ho hi hm n kd (fun j a b => beq_eq_false_iff_ne.2 (by omega))
end
end Go.Proofs.YtpmmjekaefemeaaDoor
