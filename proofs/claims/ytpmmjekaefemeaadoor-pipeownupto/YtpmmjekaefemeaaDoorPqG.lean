/-
  culvertlaw19.step: Put, Cut (written by gen_PqF.py)
-/
import Derived.Test.YtpmmjekaefemeaaDoorPqF
namespace Go.Proofs.YtpmmjekaefemeaaDoor
open Go.RowKit

section
variable {A : Nat → Addr} {own own' own2 : Nat → Nat} {w w' w0 W : World} {Lp b ALL ns AN : List Int} {v sl vn : Value} {i p ps G bx nb GN : Nat} {cut cp cn : Bool} {I : Nat → Prop} {kd n : Int}

set_option maxRecDepth 20000 in
set_option maxHeartbeats 4000000 in
theorem step19_4 (own : Nat → Nat) (w : World) (hg : OnG A w0 own w) (h : Tp own i w p v ALL G cut) (ho : RdQ own 0 w sl ns) (hi : 10 ≤ i) (hm : ALL.length + ns.length ≤ 2199023255551) (n : Int) :
    Calls Tryd.prog 10 #[ptr p, dz v G cut, .agg #[.int .i64 4, sl, .int .i64 n]] w fun e w' => Ends19 own i w p (ALL.length + ns.length) e w' := by
  have X := Aside.mk (Sx.start h ho 4 n)
  have HG := Aside.mk hg
  obtain ⟨ra, rc, hra⟩ := h.slc
  subst hra
  obtain ⟨sa, sc, hsa⟩ := ho.shape
  subst hsa
  have HGG := Aside.mk h.g
  have HI := Aside.mk hi
  have HM := Aside.mk hm
  obtain ⟨N, hN⟩ : ∃ N, ALL.length = N := ⟨_, rfl⟩
  have HN := Aside.mk hN
  obtain ⟨B, hB⟩ : ∃ B, ns.length = B := ⟨_, rfl⟩
  have HB := Aside.mk hB
  rw [hN, hB] at X
  rw [hN, hB]
  obtain ⟨bx, hb⟩ : ∃ bx, w.heap.size = bx := ⟨_, rfl⟩
  obtain ⟨W1, hW1⟩ : ∃ W1, (((w.alloc (dzc (.slice ra N rc) G cut)).alloc (opc 4 (.slice sa B sc) n)).alloc (dzc (.slice none 0 0) 0 false)) = W1 := ⟨_, rfl⟩
  rw [hW1] at X
  obtain ⟨own1, hown1⟩ : ∃ own1, give own w.heap.size 8 = own1 := ⟨_, rfl⟩
  rw [hown1, hb] at X
  have e0 : Aside (¬ I19 i 0) := ⟨by show ¬ (_ ∨ _ ∨ _); omega⟩
  have G1 := Aside.mk (HG.it.sn X.it.n e0.it)
  obtain ⟨k0, k1, k2, k3, k4, k5⟩ := Sx.cells X
  obtain ⟨r0, r1, r2, k6, k7, k8, k9, k10, k11⟩ := Sx.res X
  clear hg h hi hm ho hN hB hown1
  go_enter Tryd.func10, Tryd.ntmps10
  go_upto_region 1 with fail
  clear hW1 hb
  have hNm : N ≤ 2199023255551 := by have := HM.it; have := HN.it; omega
  have hGN : G ≤ N := by have := HGG.it; have := HN.it; omega
  have DB := Aside.mk (dbreak (w := W1) (.slice ra N rc) ⟨ra, rc, by rw [HN.it]⟩ HGG.it (by rw [HN.it]; exact hNm) cut)
  obtain ⟨U, hU⟩ : ∃ U, (und ALL G cut).length = U := ⟨_, rfl⟩
  have HU := Aside.mk hU
  have hU2 : U ≤ N := by have := und_le (ALL := ALL) (G := G) (cut := cut); have := HN.it; omega
  rw [hU] at DB
  clear hU
  go_upto_region 13 with (first
    | (go_at_call 26; refine DB.it.mono ?_; clear DB k0 k1 k2 k3 k4 k5 k6 k7 k8 k9 k10 k11; rintro e w2 ⟨rfl, K2⟩)
    | fail)
  obtain ⟨own3, Y3⟩ := X.it.next (vn := .slice ra N rc) (AN := ALL) (GN := G) (cn := true) K2.it (X.it.d.sn (I := fun _ => False) (Sn.quiet K2.it (i + 4)) (fun x => x))
  have Y3 := Aside.mk Y3
  clear X
  generalize (w2.alloc (dzc (.slice ra N rc) G true)) = W3 at Y3 ⊢
  generalize w2.heap.size = nb at Y3 ⊢
  have Yd := Aside.mk (Y3.it.quiet (Keeps.refl _ _).drew)
  have eB2 : ((U : Int) == (U : Int)) = true := by simp
  clear Y3
  go_region_held3 (fun w' => w'.cell? ⟨nb, 0, none⟩ = some (.slice ra N rc) ∧ w'.cell? ⟨nb, 1, none⟩ = some (.int .i64 G) ∧ w'.cell? ⟨nb, 2, none⟩ = some (.bool true) ∧ w'.cell? ⟨bx + 1, 1, none⟩ = some (.slice sa B sc) ∧ w'.cell? ⟨bx + 1, 2, none⟩ = some (.int .i64 n)) (first | with_reducible exact Sy.cells (by with_reducible assumption) | with_reducible exact Sy.cellsS (by with_reducible assumption)) (first
    | (go_at_call 17; with_reducible refine (sy_cut HI.it (by with_reducible assumption) (by rw [HU.it]; omega)).mono ?_; rintro e w4 ⟨rfl, P4⟩; rw [HU.it]; have P4x := Aside.mk P4.it.x; obtain ⟨r0, r1, r2, k6, k7, k8, k9, k10, k11⟩ := Sx.res P4x)
    | fail)
  all_goals
    obtain ⟨F, hF, z0, z1, z2, EF⟩ := Sx.fin (m := N + B) (ALL2 := ALL) (G2 := G) (cut2 := true) HI.it P4x ⟨P4.it.d⟩ (by have := HN.it; omega) HGG.it
    rw [← hF]
    go_wp2
    refine bodyPost_ret (v := .tuple #[dz (.slice ra N rc) ((G : Nat) : Int) true, .bool true]) (by simp [results, Tryd.results10, go_sem, z0, z1, z2]) rfl ?_
    first | exact EF.it | exact EF.it.drew
set_option maxRecDepth 20000 in
set_option maxHeartbeats 4000000 in
theorem step19_1c (own : Nat → Nat) (w : World) (hg : OnG A w0 own w) (h : Tp own i w p v ALL G true) (ho : RdQ own 0 w sl ns) (hi : 10 ≤ i) (hm : ALL.length + ns.length ≤ 2199023255551) (n : Int) :
    Calls Tryd.prog 10 #[ptr p, dz v G true, .agg #[.int .i64 1, sl, .int .i64 n]] w fun e w' => Ends19 own i w p (ALL.length + ns.length) e w' := by
  have X := Aside.mk (Sx.start h ho 1 n)
  have HG := Aside.mk hg
  obtain ⟨ra, rc, hra⟩ := h.slc
  subst hra
  obtain ⟨sa, sc, hsa⟩ := ho.shape
  subst hsa
  have HGG := Aside.mk h.g
  have HI := Aside.mk hi
  have HM := Aside.mk hm
  obtain ⟨N, hN⟩ : ∃ N, ALL.length = N := ⟨_, rfl⟩
  have HN := Aside.mk hN
  obtain ⟨B, hB⟩ : ∃ B, ns.length = B := ⟨_, rfl⟩
  have HB := Aside.mk hB
  rw [hN, hB] at X
  rw [hN, hB]
  obtain ⟨bx, hb⟩ : ∃ bx, w.heap.size = bx := ⟨_, rfl⟩
  obtain ⟨W1, hW1⟩ : ∃ W1, (((w.alloc (dzc (.slice ra N rc) G true)).alloc (opc 1 (.slice sa B sc) n)).alloc (dzc (.slice none 0 0) 0 false)) = W1 := ⟨_, rfl⟩
  rw [hW1] at X
  obtain ⟨own1, hown1⟩ : ∃ own1, give own w.heap.size 8 = own1 := ⟨_, rfl⟩
  rw [hown1, hb] at X
  have e0 : Aside (¬ I19 i 0) := ⟨by show ¬ (_ ∨ _ ∨ _); omega⟩
  have G1 := Aside.mk (HG.it.sn X.it.n e0.it)
  obtain ⟨k0, k1, k2, k3, k4, k5⟩ := Sx.cells X
  obtain ⟨r0, r1, r2, k6, k7, k8, k9, k10, k11⟩ := Sx.res X
  clear hg h hi hm ho hN hB hown1
  go_enter Tryd.func10, Tryd.ntmps10
  go_upto_region 1 with fail
  clear hW1 hb
  have hNm : N ≤ 2199023255551 := by have := HM.it; have := HN.it; omega
  have hGN : G ≤ N := by have := HGG.it; have := HN.it; omega
  have DP := Aside.mk (dput_cut (w := W1) (ALL := ALL) (G := G) (.slice ra N rc) (.slice sa B sc) ⟨ra, rc, by rw [HN.it]⟩)
  go_upto_region 4 with (first
    | (go_at_call 19; refine DP.it.mono ?_; clear DP k0 k1 k2 k3 k4 k5 k6 k7 k8 k9 k10 k11; rintro e w2 ⟨rfl, K2⟩)
    | fail)
  obtain ⟨own3, Y3⟩ := X.it.next (vn := .slice ra N rc) (AN := ALL) (GN := G) (cn := true) K2.it (X.it.d.sn (I := fun _ => False) (Sn.quiet K2.it (i + 4)) (fun x => x))
  have Y3 := Aside.mk Y3
  clear X
  generalize (w2.alloc (dzc (.slice ra N rc) G true)) = W3 at Y3 ⊢
  generalize w2.heap.size = nb at Y3 ⊢
  obtain ⟨_, _, _, k4, k5⟩ := Sy.cells Y3
  have CP := Aside.mk (copied19 Y3.it.x.o.1 (by have := HM.it; omega))
  rw [HB.it] at CP
  go_upto_region 5 with (first
    | (go_at_call 12; refine CP.it.mono ?_; clear CP k4 k5; rintro e w4 ⟨ca, cc, rfl, X4⟩; have Y4 := Aside.mk (Y3.it.step X4.it.k (i + 5)); have ty := Y4.it.x.t; have PC := Aside.mk (put_cut19 ty (.slice ca B cc) _ ((HG.it.sn Y4.it.x.n e0.it).sents.cell 26 _ rfl)); clear ty)
    | (go_at_call 11; refine PC.it.mono ?_; clear PC; rintro e w5 ⟨rfl, K5⟩)
    | fail)
  have Y5 := Aside.mk (Y4.it.quiet (K5.it.trans (Keeps.refl _ _).drew))
  have eB2 : ((27 : Int) == (27 : Int)) = true := by simp
  clear Y3 Y4
  go_region_held3 (fun w' => w'.cell? ⟨nb, 0, none⟩ = some (.slice ra N rc) ∧ w'.cell? ⟨nb, 1, none⟩ = some (.int .i64 G) ∧ w'.cell? ⟨nb, 2, none⟩ = some (.bool true) ∧ w'.cell? ⟨bx + 1, 1, none⟩ = some (.slice sa B sc) ∧ w'.cell? ⟨bx + 1, 2, none⟩ = some (.int .i64 n)) (first | with_reducible exact Sy.cells (by with_reducible assumption) | with_reducible exact Sy.cellsS (by with_reducible assumption)) (first
    | (go_at_call 18; with_reducible refine (sy_code HG.it e0.it (by with_reducible assumption) (Coded.mk 26 27 (by decide) (by decide) rfl)).mono ?_; rintro e w6 ⟨rfl, P4⟩; have P4x := Aside.mk P4.it.x; obtain ⟨r0, r1, r2, k6, k7, k8, k9, k10, k11⟩ := Sx.res P4x)
    | fail)
  all_goals
    obtain ⟨F, hF, z0, z1, z2, EF⟩ := Sx.fin (m := N + B) (ALL2 := ALL) (G2 := G) (cut2 := true) HI.it P4x ⟨P4.it.d⟩ (by have := HN.it; omega) HGG.it
    rw [← hF]
    go_wp2
    refine bodyPost_ret (v := .tuple #[dz (.slice ra N rc) ((G : Nat) : Int) true, .bool true]) (by simp [results, Tryd.results10, go_sem, z0, z1, z2]) rfl ?_
    first | exact EF.it | exact EF.it.drew
set_option maxRecDepth 20000 in
set_option maxHeartbeats 4000000 in
theorem step19_1 (own : Nat → Nat) (w : World) (hg : OnG A w0 own w) (h : Tp own i w p v ALL G false) (ho : RdQ own 0 w sl ns) (hi : 10 ≤ i) (hm : ALL.length + ns.length ≤ 2199023255551) (n : Int) :
    Calls Tryd.prog 10 #[ptr p, dz v G false, .agg #[.int .i64 1, sl, .int .i64 n]] w fun e w' => Ends19 own i w p (ALL.length + ns.length) e w' := by
  have X := Aside.mk (Sx.start h ho 1 n)
  have HG := Aside.mk hg
  obtain ⟨ra, rc, hra⟩ := h.slc
  subst hra
  obtain ⟨sa, sc, hsa⟩ := ho.shape
  subst hsa
  have HGG := Aside.mk h.g
  have HI := Aside.mk hi
  have HM := Aside.mk hm
  obtain ⟨N, hN⟩ : ∃ N, ALL.length = N := ⟨_, rfl⟩
  have HN := Aside.mk hN
  obtain ⟨B, hB⟩ : ∃ B, ns.length = B := ⟨_, rfl⟩
  have HB := Aside.mk hB
  rw [hN, hB] at X
  rw [hN, hB]
  obtain ⟨bx, hb⟩ : ∃ bx, w.heap.size = bx := ⟨_, rfl⟩
  obtain ⟨W1, hW1⟩ : ∃ W1, (((w.alloc (dzc (.slice ra N rc) G false)).alloc (opc 1 (.slice sa B sc) n)).alloc (dzc (.slice none 0 0) 0 false)) = W1 := ⟨_, rfl⟩
  rw [hW1] at X
  obtain ⟨own1, hown1⟩ : ∃ own1, give own w.heap.size 8 = own1 := ⟨_, rfl⟩
  rw [hown1, hb] at X
  have e0 : Aside (¬ I19 i 0) := ⟨by show ¬ (_ ∨ _ ∨ _); omega⟩
  have G1 := Aside.mk (HG.it.sn X.it.n e0.it)
  obtain ⟨k0, k1, k2, k3, k4, k5⟩ := Sx.cells X
  obtain ⟨r0, r1, r2, k6, k7, k8, k9, k10, k11⟩ := Sx.res X
  clear hg h hi hm ho hN hB hown1
  go_enter Tryd.func10, Tryd.ntmps10
  go_upto_region 1 with fail
  clear hW1 hb
  have hNm : N ≤ 2199023255551 := by have := HM.it; have := HN.it; omega
  have hGN : G ≤ N := by have := HGG.it; have := HN.it; omega
  have DP := Aside.mk (dput (w := W1) (G := G) (.slice ra N rc) (.slice sa B sc) X.it.d.1 X.it.o.1 HM.it)
  have hUL := und_le (ALL := ALL) (G := G) (cut := false)
  have HNB : Aside ((ALL ++ ns).length = N + B) := ⟨by rw [List.length_append, HN.it, HB.it]⟩
  rw [HB.it, HNB.it] at DP
  go_upto_region 4 with (first
    | (go_at_call 19; refine DP.it.mono ?_; clear DP k0 k1 k2 k3 k4 k5 k6 k7 k8 k9 k10 k11; rintro e w2 ⟨xa, xc, rfl, X2⟩)
    | fail)
  obtain ⟨own3, Y3⟩ := X.it.next (vn := .slice xa (N + B) xc) (AN := ALL ++ ns) (GN := G) (cn := false) X2.it.k (X2.it.rowB own1 (i + 4)).rdO
  have Y3 := Aside.mk Y3
  clear X
  generalize (w2.alloc (dzc (.slice xa (N + B) xc) G false)) = W3 at Y3 ⊢
  generalize w2.heap.size = nb at Y3 ⊢
  obtain ⟨_, _, _, k4, k5⟩ := Sy.cells Y3
  have CP := Aside.mk (copied19 Y3.it.x.o.1 (by have := HM.it; omega))
  rw [HB.it] at CP
  go_upto_region 5 with (first
    | (go_at_call 12; refine CP.it.mono ?_; clear CP k4 k5; rintro e w4 ⟨ca, cc, rfl, X4⟩; have Y4 := Aside.mk (Y3.it.step X4.it.k (i + 5)); have ty := Y4.it.x.t; have PC := Aside.mk (put19 ty (OwnB.rd X4.it.row) (by have := HM.it; omega)); clear ty; rw [HB.it] at PC)
    | (go_at_call 11; refine PC.it.mono ?_; clear PC; rintro e w5 ⟨own5, rfl, X5⟩)
    | fail)
  have Y5 := Aside.mk ((Y4.it.prog HI.it X5.it.1 (X5.it.2.mono (fun _ e => .inl e))).quiet (Keeps.refl _ _).drew)
  rw [und_put ns HGG.it] at Y5
  have eB2 : ((B : Int) == (B : Int)) = true := by simp
  have eB3 : ((0 : Int) == (0 : Int)) = true := by simp
  obtain ⟨NB, hNB⟩ : ∃ NB, Aside (N + B = NB) := ⟨_, ⟨rfl⟩⟩
  rw [hNB.it] at Y5 ⊢
  clear Y3 Y4
  go_region_held3 (fun w' => w'.cell? ⟨nb, 0, none⟩ = some (.slice xa NB xc) ∧ w'.cell? ⟨nb, 1, none⟩ = some (.int .i64 G) ∧ w'.cell? ⟨nb, 2, none⟩ = some (.bool false) ∧ w'.cell? ⟨bx + 1, 1, none⟩ = some (.slice sa B sc) ∧ w'.cell? ⟨bx + 1, 2, none⟩ = some (.int .i64 n)) (first | with_reducible exact Sy.cells (by with_reducible assumption) | with_reducible exact Sy.cellsS (by with_reducible assumption)) (first
    | (go_at_call 18; with_reducible refine (sy_code HG.it e0.it (by with_reducible assumption) Coded.none).mono ?_; rintro e w6 ⟨rfl, P4⟩; have P4x := Aside.mk P4.it.x; obtain ⟨r0, r1, r2, k6, k7, k8, k9, k10, k11⟩ := Sx.res P4x)
    | fail)
  all_goals
    obtain ⟨F, hF, z0, z1, z2, EF⟩ := Sx.fin (m := N + B) (ALL2 := ALL ++ ns) (G2 := G) (cut2 := false) HI.it P4x ⟨P4.it.d⟩ (by have := HNB.it; omega) (by have := HGG.it; rw [List.length_append]; omega)
    rw [← hF]
    go_wp2
    refine bodyPost_ret (v := .tuple #[dz (.slice xa NB xc) ((G : Nat) : Int) false, .bool true]) (by simp [results, Tryd.results10, go_sem, z0, z1, z2]) rfl ?_
    first | exact EF.it | exact EF.it.drew
end
end Go.Proofs.YtpmmjekaefemeaaDoor
