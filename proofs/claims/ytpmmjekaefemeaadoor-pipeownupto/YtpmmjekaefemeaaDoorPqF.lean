/-
  culvertlaw19.step: its ways (written by gen_PqF.py)
-/
import Derived.Test.YtpmmjekaefemeaaDoorPqE
namespace Go.Proofs.YtpmmjekaefemeaaDoor
open Go.RowKit

section
variable {A : Nat → Addr} {own own' own2 : Nat → Nat} {w w' w0 W : World} {Lp b ALL ns AN : List Int} {v sl vn : Value} {i p ps G bx nb GN : Nat} {cut cp cn : Bool} {I : Nat → Prop} {kd n : Int}

theorem und_len : G + (und ALL G cut).length ≤ ALL.length ∨ ALL.length < G := by
  unfold und
  split
  · rcases Nat.lt_or_ge ALL.length G with h | h
    · exact .inr h
    · exact .inl (by simpa using h)
  · rw [List.length_drop]; omega
theorem und_drop (k : Nat) : (und ALL G cut).drop k = und ALL (G + ((und ALL G cut).take k).length) cut := by
  unfold und
  split
  · simp
  · rw [List.drop_drop, List.length_take, List.length_drop]
    by_cases e : k ≤ ALL.length - G
    · rw [Nat.min_eq_left e]
    · rw [Nat.min_eq_right (by omega), List.drop_of_length_le (by omega), List.drop_of_length_le (by omega)]
theorem und_put (b : List Int) (hG : G ≤ ALL.length) : und ALL G false ++ b = und (ALL ++ b) G false := by
  unfold und
  simp only [Bool.false_eq_true, if_false]
  rw [List.drop_append_of_le_length hG]
theorem sx_len (h : Aside (Sx own i w own' W p Lp ps cp bx v ALL G cut kd sl ns n)) (hL : Lp.length ≤ 2199023255551) : Calls Tryd.prog 13 #[ptr p] W fun e w' => e = .returned (.int .i64 Lp.length) ∧ Aside (Sx own i w own' w' p Lp ps cp bx v ALL G cut kd sl ns n) := by
  refine (len19 h.it.t hL).mono ?_
  rintro e w' ⟨rfl, K⟩
  exact ⟨rfl, ⟨h.it.quiet K.it⟩⟩
theorem sx_left (h : Aside (Sx own i w own' W p Lp ps cp bx v ALL G cut kd sl ns n)) (hG : G ≤ ALL.length) (hm : ALL.length ≤ 2199023255551) : Calls Tryd.prog 25 #[dz v G cut] W fun e w' => e = .returned (.int .i64 (und ALL G cut).length) ∧ Aside (Sx own i w own' w' p Lp ps cp bx v ALL G cut kd sl ns n) := by
  refine (dleft v h.it.d.shape hG hm cut).mono ?_
  rintro e w' ⟨rfl, K⟩
  exact ⟨rfl, ⟨h.it.quiet K.it⟩⟩
theorem sx_passed (h : Aside (Sx own i w own' W p Lp ps cp bx v ALL G cut kd sl ns n)) : Calls Tryd.prog 15 #[ptr p] W fun e w' => e = .returned (.int .u64 ps) ∧ Aside (Sx own i w own' w' p Lp ps cp bx v ALL G cut kd sl ns n) := by
  refine (passed19 h.it.t).mono ?_
  rintro e w' ⟨rfl, hw⟩
  exact ⟨rfl, ⟨by rw [hw]; exact h.it⟩⟩
theorem sx_broken (h : Aside (Sx own i w own' W p Lp ps cp bx v ALL G cut kd sl ns n)) : Calls Tryd.prog 16 #[ptr p] W fun e w' => e = .returned (.bool cp) ∧ Aside (Sx own i w own' w' p Lp ps cp bx v ALL G cut kd sl ns n) := by
  refine (broken19 h.it.t).mono ?_
  rintro e w' ⟨rfl, hw⟩
  exact ⟨rfl, ⟨by rw [hw]; exact h.it⟩⟩
theorem sy_cut (hi : 10 ≤ i) (h : Aside (Sy own i w own' W p Lp ps cp bx v ALL G cut kd sl ns n nb vn AN GN cn)) (hL : Lp.length ≤ 2199023255551) : Calls Tryd.prog 17 #[ptr p] W fun e w' => e = .returned (.int .i64 Lp.length) ∧ Aside (Sy own i w own' w' p [] ps true bx v ALL G cut kd sl ns n nb vn AN GN cn) := by
  refine (cut19 h.it.x.t hL).mono ?_
  rintro e w' ⟨rfl, K⟩
  exact ⟨rfl, ⟨h.it.prog hi K.it.1 (K.it.2.mono (fun _ e => .inr (.inl e)))⟩⟩
theorem sy_code (hg : OnG A w0 own w) (h0 : ¬ I19 i 0) (h : Aside (Sy own i w own' W p Lp ps cp bx v ALL G cut kd sl ns n nb vn AN GN cn)) {ev : Value} {k : Int} (hv : Coded A ev k) : Calls Tryd.prog 18 #[ev] W fun e w' => e = .returned (.int .i64 k) ∧ Aside (Sy own i w own' w' p Lp ps cp bx v ALL G cut kd sl ns n nb vn AN GN cn) := by
  refine (code_of (hg.sn h.it.x.n h0).sents hv).mono ?_
  rintro e w' ⟨rfl, hw⟩
  exact ⟨rfl, ⟨by rw [hw]; exact h.it⟩⟩
set_option maxRecDepth 20000 in
set_option maxHeartbeats 4000000 in
theorem step19_other (own : Nat → Nat) (w : World) (hg : OnG A w0 own w) (h : Tp own i w p v ALL G cut) (ho : RdQ own 0 w sl ns) (hi : 10 ≤ i) (hm : ALL.length + ns.length ≤ 2199023255551) (n : Int) (kd : Int) (hk : ∀ j : Int, 1 ≤ j → j ≤ 4 → (kd == j) = false) :
    Calls Tryd.prog 10 #[ptr p, dz v G cut, .agg #[.int .i64 kd, sl, .int .i64 n]] w fun e w' => Ends19 own i w p (ALL.length + ns.length) e w' := by
  have X := Aside.mk (Sx.start h ho kd n)
  have HG := Aside.mk hg
  obtain ⟨ra, rc, hra⟩ := h.slc
  subst hra
  obtain ⟨sa, sc, hsa⟩ := ho.shape
  subst hsa
  have HGG := Aside.mk h.g
  have HI := Aside.mk hi
  have HM := Aside.mk hm
  obtain ⟨N, hN⟩ : ∃ N, ALL.length = N := ⟨_, rfl⟩
  have HN := Aside.mk hN
  obtain ⟨B, hB⟩ : ∃ B, ns.length = B := ⟨_, rfl⟩
  have HB := Aside.mk hB
  rw [hN, hB] at X
  rw [hN, hB]
  obtain ⟨bx, hb⟩ : ∃ bx, w.heap.size = bx := ⟨_, rfl⟩
  obtain ⟨W1, hW1⟩ : ∃ W1, (((w.alloc (dzc (.slice ra N rc) G cut)).alloc (opc kd (.slice sa B sc) n)).alloc (dzc (.slice none 0 0) 0 false)) = W1 := ⟨_, rfl⟩
  rw [hW1] at X
  obtain ⟨own1, hown1⟩ : ∃ own1, give own w.heap.size 8 = own1 := ⟨_, rfl⟩
  rw [hown1, hb] at X
  have e0 : Aside (¬ I19 i 0) := ⟨by show ¬ (_ ∨ _ ∨ _); omega⟩
  have G1 := Aside.mk (HG.it.sn X.it.n e0.it)
  obtain ⟨k0, k1, k2, k3, k4, k5⟩ := Sx.cells X
  obtain ⟨r0, r1, r2, k6, k7, k8, k9, k10, k11⟩ := Sx.res X
  clear hg h hi hm ho hN hB hown1
  go_enter Tryd.func10, Tryd.ntmps10
  go_upto_region 1 with fail
  clear hW1 hb
  have q1 := hk 1 (by decide) (by decide)
  have q2 := hk 2 (by decide) (by decide)
  have q3 := hk 3 (by decide) (by decide)
  have q4 := hk 4 (by decide) (by decide)
  clear hk
  go_wp2_with fail
  obtain ⟨F, hF, z0, z1, z2, EF⟩ := Sx.fin (m := N + B) HI.it X ⟨X.it.d⟩ (by have := HN.it; omega) HGG.it
  rw [← hF]
  refine bodyPost_ret (v := .tuple #[dz (.slice ra N rc) ((G : Nat) : Int) cut, .bool true]) (by simp [results, Tryd.results10, go_sem, z0, z1, z2]) rfl ?_
  exact EF.it
set_option maxRecDepth 20000 in
set_option maxHeartbeats 4000000 in
theorem step19_3 (own : Nat → Nat) (w : World) (hg : OnG A w0 own w) (h : Tp own i w p v ALL G cut) (ho : RdQ own 0 w sl ns) (hi : 10 ≤ i) (hm : ALL.length + ns.length ≤ 2199023255551) (n : Int) :
    Calls Tryd.prog 10 #[ptr p, dz v G cut, .agg #[.int .i64 3, sl, .int .i64 n]] w fun e w' => Ends19L own i w p v ALL G cut e w' := by
  have X := Aside.mk (Sx.start h ho 3 n)
  have HG := Aside.mk hg
  obtain ⟨ra, rc, hra⟩ := h.slc
  subst hra
  obtain ⟨sa, sc, hsa⟩ := ho.shape
  subst hsa
  have HGG := Aside.mk h.g
  have HI := Aside.mk hi
  have HM := Aside.mk hm
  obtain ⟨N, hN⟩ : ∃ N, ALL.length = N := ⟨_, rfl⟩
  have HN := Aside.mk hN
  obtain ⟨B, hB⟩ : ∃ B, ns.length = B := ⟨_, rfl⟩
  have HB := Aside.mk hB
  rw [hN, hB] at X
  rw [hN, hB]
  obtain ⟨bx, hb⟩ : ∃ bx, w.heap.size = bx := ⟨_, rfl⟩
  obtain ⟨W1, hW1⟩ : ∃ W1, (((w.alloc (dzc (.slice ra N rc) G cut)).alloc (opc 3 (.slice sa B sc) n)).alloc (dzc (.slice none 0 0) 0 false)) = W1 := ⟨_, rfl⟩
  rw [hW1] at X
  obtain ⟨own1, hown1⟩ : ∃ own1, give own w.heap.size 8 = own1 := ⟨_, rfl⟩
  rw [hown1, hb] at X
  have e0 : Aside (¬ I19 i 0) := ⟨by show ¬ (_ ∨ _ ∨ _); omega⟩
  have G1 := Aside.mk (HG.it.sn X.it.n e0.it)
  obtain ⟨k0, k1, k2, k3, k4, k5⟩ := Sx.cells X
  obtain ⟨r0, r1, r2, k6, k7, k8, k9, k10, k11⟩ := Sx.res X
  clear hg h hi hm ho hN hB hown1
  go_enter Tryd.func10, Tryd.ntmps10
  go_upto_region 1 with fail
  clear hW1 hb
  obtain ⟨U, hU⟩ : ∃ U, (und ALL G cut).length = U := ⟨_, rfl⟩
  have HU := Aside.mk hU
  have hU2 : U ≤ N := by have := und_le (ALL := ALL) (G := G) (cut := cut); have := HN.it; omega
  have hNm : N ≤ 2199023255551 := by have := HM.it; have := HN.it; omega
  have hGN : G ≤ N := by have := HGG.it; have := HN.it; omega
  have g1 : (0 : Int) ≤ G := by omega
  have g2 : (G : Int) ≤ 18446744073709551615 := by omega
  have ebb : (cut == cut) = true := by simp
  have eW : IntKind.u64.wrap (G : Int) = (G : Int) := by rw [IntKind.wrap_u64]; omega
  have eB : ((G : Int) == IntKind.u64.wrap (G : Int)) = true := by rw [eW]; simp
  have eB2 : ((U : Int) == (U : Int)) = true := by simp
  clear hU
  go_upto_region 10 with fail
  have Xd := Aside.mk (X.it.quiet (Keeps.refl _ _).drew)
  clear X k0 k1 k2 k3 k4 k5 k6 k7 k8 k9 k10 k11
  go_region_held3 (fun w' => w'.cell? ⟨bx, 0, none⟩ = some (.slice ra N rc) ∧ w'.cell? ⟨bx, 1, none⟩ = some (.int .i64 G) ∧ w'.cell? ⟨bx, 2, none⟩ = some (.bool cut) ∧ w'.cell? ⟨bx + 1, 0, none⟩ = some (.int .i64 3) ∧ w'.cell? ⟨bx + 1, 1, none⟩ = some (.slice sa B sc) ∧ w'.cell? ⟨bx + 1, 2, none⟩ = some (.int .i64 n)) (first | with_reducible exact Sx.cells (by with_reducible assumption) | with_reducible exact Sx.cellsS (by with_reducible assumption)) (first
    | (go_at_call 16; with_reducible refine (sx_broken (by with_reducible assumption)).mono ?_; rintro e w5 ⟨rfl, P5⟩; obtain ⟨r0, r1, r2, k6, k7, k8, k9, k10, k11⟩ := Sx.res P5)
    | (go_at_call 15; with_reducible refine (sx_passed (by with_reducible assumption)).mono ?_; rintro e w4 ⟨rfl, P4⟩)
    | (go_at_call 13; with_reducible refine (sx_len (by with_reducible assumption) (by rw [HU.it]; omega)).mono ?_; rintro e w2 ⟨rfl, P2⟩; rw [HU.it])
    | (go_at_call 25; with_reducible refine (sx_left (by with_reducible assumption) HGG.it (by rw [HN.it]; exact hNm)).mono ?_; rintro e w3 ⟨rfl, P3⟩; rw [HU.it])
    | fail)
  all_goals
    obtain ⟨F, hF, z0, z1, z2, EF⟩ := Sx.finL HI.it P5 HGG.it
    rw [← hF]
    go_wp2
    refine bodyPost_ret (v := .tuple #[dz (.slice ra N rc) ((G : Nat) : Int) cut, .bool true]) (by simp [results, Tryd.results10, go_sem, z0, z1, z2]) rfl ?_
    first | exact EF.it | exact EF.it.drew
end
end Go.Proofs.YtpmmjekaefemeaaDoor
