/-
  culvertlaw16.step: its ways (written by gen_BkU.py)
-/
import Derived.Test.YtolmiecbgkdlfaaDoorBkT
namespace Go.Proofs.YtolmiecbgkdlfaaDoor
open Go.RowKit

variable {A : Nat → Addr} {w w' W w0 : World} {own own' : Nat → Nat} {i p most nb b : Nat} {L Lp Ld Ln : List Nat} {v vn : Value} {I : Nat → Prop} {kd m : Int} {id : Nat}

theorem RdN.slc (h : RdN own w v L) : ∃ a c, v = .slice a L.length c := by
  obtain ⟨a, c, e, _⟩ := h.shape
  exact ⟨a, c, e⟩
theorem erase_filter {L : List Nat} (h : L.Nodup) (id : Nat) : L.erase id = L.filter (fun x => !(x == id)) := by
  rw [h.erase_eq_filter]
  rfl
theorem putL_nodup {L : List Nat} (h : L.Nodup) (most id : Nat) : (putL most L id).Nodup := by
  unfold putL
  split
  · exact h
  · rename_i hx
    rw [List.nodup_append]
    exact ⟨h, by simp, fun a ha b hb e => hx (.inl (by rw [List.mem_singleton.1 hb] at e; rw [← e]; exact ha))⟩
theorem sx_has (h : Aside (Sx own i w own' W p most Lp b kd m id v Ld)) (x : Nat) : Calls Tryd.prog 11 #[ptr p, .int .u32 (x : Nat)] W fun e w' => e = .returned (.bool (decide (x ∈ Lp))) ∧ Aside (Sx own i w own' w' p most Lp b kd m id v Ld) := by
  refine (bhas h.it.t x).mono ?_
  rintro e w' ⟨rfl, K⟩
  exact ⟨rfl, ⟨h.it.quiet K.it⟩⟩
theorem sx_at (h : Aside (Sx own i w own' W p most Lp b kd m id v Ld)) (x : Nat) (hl : Ld.length ≤ 1024) : Calls Tryd.prog 27 #[.agg #[.int .i64 most, v], .int .u32 (x : Nat)] W fun e w' => e = .returned (.int .i64 (atI Ld x)) ∧ Aside (Sx own i w own' w' p most Lp b kd m id v Ld) := by
  refine (dat most x h.it.d hl).mono ?_
  rintro e w' ⟨rfl, K⟩
  exact ⟨rfl, ⟨h.it.quiet K.it⟩⟩
theorem sx_len (h : Aside (Sx own i w own' W p most Lp b kd m id v Ld)) : Calls Tryd.prog 15 #[ptr p] W fun e w' => e = .returned (.int .i64 Lp.length) ∧ Aside (Sx own i w own' w' p most Lp b kd m id v Ld) := by
  refine (blen h.it.t).mono ?_
  rintro e w' ⟨rfl, K⟩
  exact ⟨rfl, ⟨h.it.quiet K.it⟩⟩
theorem sx_list (h : Aside (Sx own i w own' W p most Lp b kd m id v Ld)) : Calls Tryd.prog 14 #[ptr p] W fun e w' => ∃ a l c, e = .returned (.slice a l c) ∧ Aside (ReadsK 1 w' (.slice a l c) Lp.length (Lp.map e32)) ∧ Aside (Sx own i w own' w' p most Lp b kd m id v Ld) := by
  refine (blist h.it.t).mono ?_
  rintro e w' ⟨u, rfl, R, K⟩
  obtain ⟨a, l, c, rfl⟩ := owns_shapeK R.it
  exact ⟨a, l, c, rfl, ⟨owns_readsK R.it⟩, ⟨h.it.quiet K.it⟩⟩
theorem sx_same (h : Aside (Sx own i w own' W p most Lp b kd m id v Lp)) {u : Value} (hu : Aside (ReadsK 1 W u Lp.length (Lp.map e32))) : Calls Tryd.prog 20 #[u, v] W fun e w' => e = .returned (.bool true) ∧ Aside (Sx own i w own' w' p most Lp b kd m id v Lp) := by
  refine (same_nums u v Lp hu.it h.it.d.r).mono ?_
  rintro e w' ⟨rfl, K⟩
  exact ⟨rfl, ⟨h.it.quiet K.it⟩⟩
theorem sx_clear (h : Aside (Sx own i w own' W p most Lp b kd m id v Ld)) (hi : i ≠ 8 ∧ i ≠ 9) : Calls Tryd.prog 18 #[ptr p] W fun e w' => ∃ own2, e = .returned (.int .i64 Lp.length) ∧ Aside (Sx own i w own2 w' p most [] b kd m id v Ld) := by
  refine (bclear h.it.t).mono ?_
  rintro e w' ⟨rfl, R⟩
  obtain ⟨own2, R1, R2⟩ := R.it
  exact ⟨own2, rfl, ⟨h.it.prog hi R1 R2⟩⟩
theorem sy_rem (h : Aside (Sy own i w own' W p most Lp b kd m id v Ld nb vn Ln)) (hi : i ≠ 8 ∧ i ≠ 9) (x : Nat) : Calls Tryd.prog 13 #[ptr p, .int .u32 (x : Nat)] W fun e w' => ∃ own2, e = .returned (.bool (decide (x ∈ Lp))) ∧ Aside (Sy own i w own2 w' p most (Lp.filter (fun y => !(y == x))) b kd m id v Ld nb vn Ln) := by
  refine (brem h.it.x.t x).mono ?_
  rintro e w' ⟨rfl, R⟩
  obtain ⟨own2, R1, R2⟩ := R.it
  exact ⟨own2, rfl, ⟨h.it.prog hi R1 R2⟩⟩

set_option maxRecDepth 20000 in
set_option maxHeartbeats 4000000 in
theorem step16_other (own : Nat → Nat) (w : World) (hg : OnG A w0 own w) (h : Tp own i w p most L v) (m : Int) (id : Nat) (hi : i ≠ 0 ∧ i ≠ 8 ∧ i ≠ 9) (kd : Int) (hk : ∀ j : Int, 2 ≤ j → j ≤ 7 → (kd == j) = false) :
    Calls Tryd.prog 10 #[ptr p, .agg #[.int .i64 most, v], .agg #[.int .i64 kd, .int .i64 m, .int .u32 (id : Nat)]] w fun e w' => Ends16 own i w p most e w' := by
  have X := Aside.mk (Sx.start h kd m id)
  have LU : L.length ≤ 1024 := by have := h.t.len; omega
  obtain ⟨ra, rc, rfl⟩ := h.d.slc
  have HU := Aside.mk h.u
  have HG := Aside.mk hg
  have HI := Aside.mk hi
  obtain ⟨n, hn⟩ : ∃ n, L.length = n := ⟨_, rfl⟩
  have HN := Aside.mk hn
  rw [hn] at X LU ⊢
  obtain ⟨b, hb⟩ : ∃ b, w.heap.size = b := ⟨_, rfl⟩
  obtain ⟨W1, hW1⟩ : ∃ W1, (((w.alloc (.cells #[.int .i64 most, .slice ra n rc] 31)).alloc (.cells #[.int .i64 kd, .int .i64 m, .int .u32 (id : Nat)] 36)).alloc (.cells #[.int .i64 0, .slice none 0 0] 31)) = W1 := ⟨_, rfl⟩
  rw [hW1] at X
  obtain ⟨own1, hown1⟩ : ∃ own1, give own w.heap.size 8 = own1 := ⟨_, rfl⟩
  rw [hown1, hb] at X
  have G1 := Aside.mk (HG.it.sn X.it.n (fun e => HI.it.1 e.symm))
  obtain ⟨k0, k1, k2, k3⟩ := Sx.cells X
  obtain ⟨r0, r1, k5, k6, k7, k8⟩ := Sx.res X
  clear hg h hi hn hown1
  go_enter Tryd.func10, Tryd.ntmps10
  go_upto_region 1 with fail
  clear hW1 hb
  have q2 := hk 2 (by decide) (by decide)
  have q3 := hk 3 (by decide) (by decide)
  have q4 := hk 4 (by decide) (by decide)
  have q5 := hk 5 (by decide) (by decide)
  have q6 := hk 6 (by decide) (by decide)
  have q7 := hk 7 (by decide) (by decide)
  clear hk
  have enn : ((n : Int) == n) = true := by simp
  go_upto_region 21 with fail
  have Xd := Aside.mk (X.it.quiet (Keeps.refl _ _).drew)
  clear X k0 k1 k2 k3 k5 k6 k7 k8
  go_region_held3 (fun w' => w'.cell? ⟨b, 0, none⟩ = some (.int .i64 most) ∧ w'.cell? ⟨b, 1, none⟩ = some (.slice ra n rc) ∧ w'.cell? ⟨b + 1, 0, none⟩ = some (.int .i64 kd) ∧ w'.cell? ⟨b + 1, 2, none⟩ = some (.int .u32 (id : Nat))) (first | with_reducible exact Sx.cells (by with_reducible assumption) | with_reducible exact Sx.cellsS (by with_reducible assumption)) (first
    | (go_at_call 20; with_reducible refine (sx_same (by with_reducible assumption) R8).mono ?_; rintro e w9 ⟨rfl, P9⟩; obtain ⟨r0, r1, f0, f1, f2, f3⟩ := Sx.res P9)
    | (go_at_call 14; with_reducible refine (sx_list (by with_reducible assumption)).mono ?_; rintro e w8 ⟨va, vl, vc, rfl, R8, P8⟩)
    | (go_at_call 15; with_reducible refine (sx_len (by with_reducible assumption)).mono ?_; rintro e w7 ⟨rfl, P7⟩; rw [HN.it])
    | fail)
  all_goals have D9 := Aside.mk P9.it.d
  all_goals
    obtain ⟨y0, y1, E⟩ := Sx.fin P9 D9 HU HI.it.2
    generalize (w9.setCell ⟨b + 1 + 1, 0, none⟩ (.int .i64 most)).setCell ⟨b + 1 + 1, 1, none⟩ (.slice ra n rc) = V at y0 y1 E ⊢
    go_wp2
    refine bodyPost_ret (v := .tuple #[.agg #[.int .i64 most, .slice ra n rc], .bool true]) (by simp [results, Tryd.f10, go_sem, y0, y1]) rfl ?_
    first | exact E.it | exact E.it.drew

set_option maxRecDepth 20000 in
set_option maxHeartbeats 4000000 in
theorem step16_7 (own : Nat → Nat) (w : World) (hg : OnG A w0 own w) (h : Tp own i w p most L v) (m : Int) (id : Nat) (hi : i ≠ 0 ∧ i ≠ 8 ∧ i ≠ 9) :
    Calls Tryd.prog 10 #[ptr p, .agg #[.int .i64 most, v], .agg #[.int .i64 7, .int .i64 m, .int .u32 (id : Nat)]] w fun e w' => Ends16 own i w p most e w' := by
  have X := Aside.mk (Sx.start h 7 m id)
  have LU : L.length ≤ 1024 := by have := h.t.len; omega
  obtain ⟨ra, rc, rfl⟩ := h.d.slc
  have HU := Aside.mk h.u
  have HG := Aside.mk hg
  have HI := Aside.mk hi
  obtain ⟨n, hn⟩ : ∃ n, L.length = n := ⟨_, rfl⟩
  have HN := Aside.mk hn
  rw [hn] at X LU ⊢
  obtain ⟨b, hb⟩ : ∃ b, w.heap.size = b := ⟨_, rfl⟩
  obtain ⟨W1, hW1⟩ : ∃ W1, (((w.alloc (.cells #[.int .i64 most, .slice ra n rc] 31)).alloc (.cells #[.int .i64 7, .int .i64 m, .int .u32 (id : Nat)] 36)).alloc (.cells #[.int .i64 0, .slice none 0 0] 31)) = W1 := ⟨_, rfl⟩
  rw [hW1] at X
  obtain ⟨own1, hown1⟩ : ∃ own1, give own w.heap.size 8 = own1 := ⟨_, rfl⟩
  rw [hown1, hb] at X
  have G1 := Aside.mk (HG.it.sn X.it.n (fun e => HI.it.1 e.symm))
  obtain ⟨k0, k1, k2, k3⟩ := Sx.cells X
  obtain ⟨r0, r1, k5, k6, k7, k8⟩ := Sx.res X
  clear hg h hi hn hown1
  go_enter Tryd.func10, Tryd.ntmps10
  go_upto_region 1 with fail
  clear hW1 hb
  obtain ⟨hq, hhq⟩ : ∃ hq : Bool, decide (id ∈ L) = hq := ⟨_, rfl⟩
  have HQ := Aside.mk hhq
  have AQ : Aside (decide (0 ≤ atI L id) = hq) := ⟨by
    rw [← hhq]
    unfold atI
    by_cases hx : id ∈ L
    · rw [if_pos hx]; simp [hx]
    · rw [if_neg hx]; simp [hx]⟩
  have enn : (hq == hq) = true := by simp
  obtain ⟨z, hz⟩ : ∃ z, atI L id = z := ⟨_, rfl⟩
  have HZ := Aside.mk hz
  rw [hz] at AQ
  have eq0 : decide (0 ≤ z) = hq := AQ.it
  clear hhq hz
  go_upto_region 20 with fail
  have Xd := Aside.mk (X.it.quiet (Keeps.refl _ _).drew)
  clear X k0 k1 k2 k3 k5 k6 k7 k8
  go_region_held3 (fun w' => w'.cell? ⟨b, 0, none⟩ = some (.int .i64 most) ∧ w'.cell? ⟨b, 1, none⟩ = some (.slice ra n rc) ∧ w'.cell? ⟨b + 1, 0, none⟩ = some (.int .i64 7) ∧ w'.cell? ⟨b + 1, 2, none⟩ = some (.int .u32 (id : Nat))) (first | with_reducible exact Sx.cells (by with_reducible assumption) | with_reducible exact Sx.cellsS (by with_reducible assumption)) (first
    | (go_at_call 11; with_reducible refine (sx_has (by with_reducible assumption) id).mono ?_; rintro e w7 ⟨rfl, P7⟩; rw [HQ.it])
    | (go_at_call 27; with_reducible refine (sx_at (by with_reducible assumption) id (by rw [HN.it]; exact LU)).mono ?_; rintro e w8 ⟨rfl, P8⟩; rw [HZ.it]; obtain ⟨r0, r1, f0, f1, f2, f3⟩ := Sx.res P8)
    | fail)
  all_goals have D9 := Aside.mk P8.it.d
  all_goals
    obtain ⟨y0, y1, E⟩ := Sx.fin P8 D9 HU HI.it.2
    generalize (w8.setCell ⟨b + 1 + 1, 0, none⟩ (.int .i64 most)).setCell ⟨b + 1 + 1, 1, none⟩ (.slice ra n rc) = V at y0 y1 E ⊢
    go_wp2
    refine bodyPost_ret (v := .tuple #[.agg #[.int .i64 most, .slice ra n rc], .bool true]) (by simp [results, Tryd.f10, go_sem, y0, y1]) rfl ?_
    first | exact E.it | exact E.it.drew

set_option maxRecDepth 20000 in
set_option maxHeartbeats 4000000 in
theorem step16_5 (own : Nat → Nat) (w : World) (hg : OnG A w0 own w) (h : Tp own i w p most L v) (m : Int) (id : Nat) (hi : i ≠ 0 ∧ i ≠ 8 ∧ i ≠ 9) :
    Calls Tryd.prog 10 #[ptr p, .agg #[.int .i64 most, v], .agg #[.int .i64 5, .int .i64 m, .int .u32 (id : Nat)]] w fun e w' => Ends16 own i w p most e w' := by
  have X := Aside.mk (Sx.start h 5 m id)
  have LU : L.length ≤ 1024 := by have := h.t.len; omega
  obtain ⟨ra, rc, rfl⟩ := h.d.slc
  have HU := Aside.mk h.u
  have HG := Aside.mk hg
  have HI := Aside.mk hi
  obtain ⟨n, hn⟩ : ∃ n, L.length = n := ⟨_, rfl⟩
  have HN := Aside.mk hn
  rw [hn] at X LU ⊢
  obtain ⟨b, hb⟩ : ∃ b, w.heap.size = b := ⟨_, rfl⟩
  obtain ⟨W1, hW1⟩ : ∃ W1, (((w.alloc (.cells #[.int .i64 most, .slice ra n rc] 31)).alloc (.cells #[.int .i64 5, .int .i64 m, .int .u32 (id : Nat)] 36)).alloc (.cells #[.int .i64 0, .slice none 0 0] 31)) = W1 := ⟨_, rfl⟩
  rw [hW1] at X
  obtain ⟨own1, hown1⟩ : ∃ own1, give own w.heap.size 8 = own1 := ⟨_, rfl⟩
  rw [hown1, hb] at X
  have G1 := Aside.mk (HG.it.sn X.it.n (fun e => HI.it.1 e.symm))
  obtain ⟨k0, k1, k2, k3⟩ := Sx.cells X
  obtain ⟨r0, r1, k5, k6, k7, k8⟩ := Sx.res X
  clear hg h hi hn hown1
  go_enter Tryd.func10, Tryd.ntmps10
  go_upto_region 1 with fail
  clear hW1 hb
  have enn : ((n : Int) == n) = true := by simp
  go_upto_region 14 with fail
  have Xd := Aside.mk (X.it.quiet (Keeps.refl _ _).drew)
  clear X k0 k1 k2 k3 k5 k6 k7 k8
  go_region_held3 (fun w' => w'.cell? ⟨b, 0, none⟩ = some (.int .i64 most) ∧ w'.cell? ⟨b, 1, none⟩ = some (.slice ra n rc) ∧ w'.cell? ⟨b + 1, 0, none⟩ = some (.int .i64 5) ∧ w'.cell? ⟨b + 1, 2, none⟩ = some (.int .u32 (id : Nat))) (first | with_reducible exact Sx.cells (by with_reducible assumption) | with_reducible exact Sx.cellsS (by with_reducible assumption)) (first
    | (go_at_call 18; with_reducible refine (sx_clear (by with_reducible assumption) HI.it.2).mono ?_; rintro e w9 ⟨own9, rfl, P9⟩; rw [HN.it]; obtain ⟨r0, r1, f0, f1, f2, f3⟩ := Sx.res P9)
    | fail)
  all_goals have D9 := Aside.mk (RdN.nil own9 w9)
  all_goals have U9 : Aside (([] : List Nat).Nodup) := ⟨List.nodup_nil⟩
  all_goals
    obtain ⟨y0, y1, E⟩ := Sx.fin P9 D9 U9 HI.it.2
    generalize (w9.setCell ⟨b + 1 + 1, 0, none⟩ (.int .i64 most)).setCell ⟨b + 1 + 1, 1, none⟩ (.slice none 0 0) = V at y0 y1 E ⊢
    go_wp2
    refine bodyPost_ret (v := .tuple #[.agg #[.int .i64 most, .slice none 0 0], .bool true]) (by simp [results, Tryd.f10, go_sem, y0, y1]) rfl ?_
    first | exact E.it | exact E.it.drew

set_option maxRecDepth 20000 in
set_option maxHeartbeats 4000000 in
theorem step16_4 (own : Nat → Nat) (w : World) (hg : OnG A w0 own w) (h : Tp own i w p most L v) (m : Int) (id : Nat) (hi : i ≠ 0 ∧ i ≠ 8 ∧ i ≠ 9) :
    Calls Tryd.prog 10 #[ptr p, .agg #[.int .i64 most, v], .agg #[.int .i64 4, .int .i64 m, .int .u32 (id : Nat)]] w fun e w' => Ends16 own i w p most e w' := by
  have X := Aside.mk (Sx.start h 4 m id)
  have LU : L.length ≤ 1024 := by have := h.t.len; omega
  obtain ⟨ra, rc, rfl⟩ := h.d.slc
  have HU := Aside.mk h.u
  have HG := Aside.mk hg
  have HI := Aside.mk hi
  obtain ⟨n, hn⟩ : ∃ n, L.length = n := ⟨_, rfl⟩
  have HN := Aside.mk hn
  rw [hn] at X LU ⊢
  obtain ⟨b, hb⟩ : ∃ b, w.heap.size = b := ⟨_, rfl⟩
  obtain ⟨W1, hW1⟩ : ∃ W1, (((w.alloc (.cells #[.int .i64 most, .slice ra n rc] 31)).alloc (.cells #[.int .i64 4, .int .i64 m, .int .u32 (id : Nat)] 36)).alloc (.cells #[.int .i64 0, .slice none 0 0] 31)) = W1 := ⟨_, rfl⟩
  rw [hW1] at X
  obtain ⟨own1, hown1⟩ : ∃ own1, give own w.heap.size 8 = own1 := ⟨_, rfl⟩
  rw [hown1, hb] at X
  have G1 := Aside.mk (HG.it.sn X.it.n (fun e => HI.it.1 e.symm))
  obtain ⟨k0, k1, k2, k3⟩ := Sx.cells X
  obtain ⟨r0, r1, k5, k6, k7, k8⟩ := Sx.res X
  clear hg h hi hn hown1
  go_enter Tryd.func10, Tryd.ntmps10
  go_upto_region 1 with fail
  clear hW1 hb
  have DR := Aside.mk (dremove most id X.it.d (by rw [HN.it]; exact LU))
  obtain ⟨hq, hhq⟩ : ∃ hq : Bool, decide (id ∈ L) = hq := ⟨_, rfl⟩
  have HQ := Aside.mk hhq
  rw [hhq] at DR
  have enn : (hq == hq) = true := by simp
  clear hhq
  go_upto_region 12 with (first
    | (go_at_call 26; refine DR.it.mono ?_; clear DR; rintro e w2 ⟨va, vl, vc, rfl, D2, K2⟩)
    | fail)
  obtain ⟨own3, Y3⟩ := X.it.next K2.it D2.it
  have Yd := Aside.mk (Y3.quiet (Keeps.refl _ _).drew)
  clear X k0 k1 k2 k3 k5 k6 k7 k8
  clear D2 Y3
  generalize hW3 : (w2.alloc (.cells #[.int .i64 most, .slice va vl vc] 31)) = W3 at Yd ⊢
  clear hW3
  generalize w2.heap.size = nb at Yd ⊢
  go_region_held3 (fun w' => w'.cell? ⟨nb, 0, none⟩ = some (.int .i64 most) ∧ w'.cell? ⟨nb, 1, none⟩ = some (.slice va vl vc) ∧ w'.cell? ⟨b + 1, 2, none⟩ = some (.int .u32 (id : Nat))) (first | with_reducible exact Sy.cells (by with_reducible assumption) | with_reducible exact Sy.cellsS (by with_reducible assumption) | with_reducible exact Sy.cellsD (by with_reducible assumption)) (first
    | (go_at_call 13; with_reducible refine (sy_rem (by with_reducible assumption) HI.it.2 id).mono ?_; rintro e w9 ⟨own9, rfl, P9⟩; rw [HQ.it]; have X9 := Aside.mk P9.it.x; obtain ⟨r0, r1, f0, f1, f2, f3⟩ := Sx.res X9)
    | fail)
  all_goals have D9 : Aside (RdN own9 w9 (.slice va vl vc) (L.filter (fun y => !(y == id)))) := ⟨by rw [← erase_filter HU.it id]; exact P9.it.d⟩
  all_goals have U9 : Aside ((L.filter (fun y => !(y == id))).Nodup) := ⟨HU.it.filter _⟩
  all_goals
    obtain ⟨y0, y1, E⟩ := Sx.fin X9 D9 U9 HI.it.2
    generalize (w9.setCell ⟨b + 1 + 1, 0, none⟩ (.int .i64 most)).setCell ⟨b + 1 + 1, 1, none⟩ (.slice va vl vc) = V at y0 y1 E ⊢
    go_wp2
    refine bodyPost_ret (v := .tuple #[.agg #[.int .i64 most, .slice va vl vc], .bool true]) (by simp [results, Tryd.f10, go_sem, y0, y1]) rfl ?_
    first | exact E.it | exact E.it.drew

set_option maxRecDepth 20000 in
set_option maxHeartbeats 4000000 in
theorem step16_2 (own : Nat → Nat) (w : World) (hg : OnG A w0 own w) (h : Tp own i w p most L v) (m : Int) (id : Nat) (hi : i ≠ 0 ∧ i ≠ 8 ∧ i ≠ 9) :
    Calls Tryd.prog 10 #[ptr p, .agg #[.int .i64 most, v], .agg #[.int .i64 2, .int .i64 m, .int .u32 (id : Nat)]] w fun e w' => Ends16 own i w p most e w' := by
  have X := Aside.mk (Sx.start h 2 m id)
  have LU : L.length ≤ 1024 := by have := h.t.len; omega
  obtain ⟨ra, rc, rfl⟩ := h.d.slc
  have HU := Aside.mk h.u
  have HG := Aside.mk hg
  have HI := Aside.mk hi
  obtain ⟨n, hn⟩ : ∃ n, L.length = n := ⟨_, rfl⟩
  have HN := Aside.mk hn
  rw [hn] at X LU ⊢
  obtain ⟨b, hb⟩ : ∃ b, w.heap.size = b := ⟨_, rfl⟩
  obtain ⟨W1, hW1⟩ : ∃ W1, (((w.alloc (.cells #[.int .i64 most, .slice ra n rc] 31)).alloc (.cells #[.int .i64 2, .int .i64 m, .int .u32 (id : Nat)] 36)).alloc (.cells #[.int .i64 0, .slice none 0 0] 31)) = W1 := ⟨_, rfl⟩
  rw [hW1] at X
  obtain ⟨own1, hown1⟩ : ∃ own1, give own w.heap.size 8 = own1 := ⟨_, rfl⟩
  rw [hown1, hb] at X
  have G1 := Aside.mk (HG.it.sn X.it.n (fun e => HI.it.1 e.symm))
  obtain ⟨k0, k1, k2, k3⟩ := Sx.cells X
  obtain ⟨r0, r1, k5, k6, k7, k8⟩ := Sx.res X
  clear hg h hi hn hown1
  go_enter Tryd.func10, Tryd.ntmps10
  go_upto_region 1 with fail
  clear hW1 hb
  have BP := Aside.mk (bput X.it.t id G1.it.sents)
  go_upto_region 4 with (first
    | (go_at_call 12; refine BP.it.mono ?_; clear BP; rintro e w2 ⟨ev, rfl, C2, R2⟩)
    | fail)
  obtain ⟨own2, t2, s2⟩ := R2.it
  have X2 := Aside.mk (X.it.prog HI.it.2 t2 s2)
  have G2 := Aside.mk (G1.it.sn s2 (fun e => HI.it.1 e.symm))
  have DP := Aside.mk (dput most id X2.it.d (by rw [HN.it]; exact LU))
  obtain ⟨k0', k1', k2', k3'⟩ := Sx.cells X2
  clear X k0 k1 k2 k3 k5 k6 k7 k8 t2 s2 R2
  go_upto_region 5 with (first
    | (go_at_call 24; refine DP.it.mono ?_; clear DP; rintro e w3 ⟨va, vl, vc, rfl, D3, K3⟩)
    | fail)
  obtain ⟨own3, Y3⟩ := X2.it.next K3.it D3.it
  have S3 : Aside (Sents 92 codeVars A (w3.alloc (.cells #[.int .i64 most, .slice va vl vc] 31)).drew) := ⟨G2.it.sents.later ((K3.it.alloc _).drew).bel⟩
  have Yd := Aside.mk (Y3.quiet (Keeps.refl _ _).drew)
  have X9 := Aside.mk Y3.x
  have Y9 := Aside.mk Y3
  have D9 := Aside.mk Y3.d
  clear D3 Y3 k0' k1' k2' k3' X2 G2
  obtain ⟨cd, hcd⟩ : ∃ cd, putC most L id = cd := ⟨_, rfl⟩
  rw [hcd] at C2 ⊢
  have ecc : (cd == cd) = true := by simp
  clear hcd
  have U9 : Aside ((putL most L id).Nodup) := ⟨putL_nodup HU.it most id⟩
  generalize hW3 : (w3.alloc (.cells #[.int .i64 most, .slice va vl vc] 31)) = W3 at Yd S3 X9 D9 Y9 ⊢
  obtain ⟨r0, r1, f0, f1, f2, f3⟩ := Sx.res X9
  clear hW3
  generalize w3.heap.size = nb at Yd Y9 ⊢
  go_region_held3 (fun w' => w'.cell? ⟨nb, 0, none⟩ = some (.int .i64 most) ∧ w'.cell? ⟨nb, 1, none⟩ = some (.slice va vl vc) ∧ w'.cell? ⟨b + 1, 2, none⟩ = some (.int .u32 (id : Nat))) (first | with_reducible exact Sy.cells (by with_reducible assumption) | with_reducible exact Sy.cellsS (by with_reducible assumption) | with_reducible exact Sy.cellsD (by with_reducible assumption)) (first
    | (go_at_call 9; with_reducible refine (code_of S3.it C2.out).mono ?_; rintro e w9 ⟨rfl, hw9⟩; subst hw9)
    | fail)
  all_goals
    obtain ⟨y0, y1, E⟩ := Sx.fin X9 D9 U9 HI.it.2
    generalize (W3.setCell ⟨b + 1 + 1, 0, none⟩ (.int .i64 most)).setCell ⟨b + 1 + 1, 1, none⟩ (.slice va vl vc) = V at y0 y1 E ⊢
    go_wp2
    refine bodyPost_ret (v := .tuple #[.agg #[.int .i64 most, .slice va vl vc], .bool true]) (by simp [results, Tryd.f10, go_sem, y0, y1]) rfl ?_
    first | exact E.it | exact E.it.drew

set_option maxRecDepth 20000 in
set_option maxHeartbeats 4000000 in
theorem step16_3 (own : Nat → Nat) (w : World) (hg : OnG A w0 own w) (h : Tp own i w p most L v) (m : Int) (id : Nat) (hi : i ≠ 0 ∧ i ≠ 8 ∧ i ≠ 9) :
    Calls Tryd.prog 10 #[ptr p, .agg #[.int .i64 most, v], .agg #[.int .i64 3, .int .i64 m, .int .u32 (id : Nat)]] w fun e w' => Ends16 own i w p most e w' := by
  have X := Aside.mk (Sx.start h 3 m id)
  have LU : L.length ≤ 1024 := by have := h.t.len; omega
  obtain ⟨ra, rc, rfl⟩ := h.d.slc
  have HU := Aside.mk h.u
  have HG := Aside.mk hg
  have HI := Aside.mk hi
  obtain ⟨n, hn⟩ : ∃ n, L.length = n := ⟨_, rfl⟩
  have HN := Aside.mk hn
  rw [hn] at X LU ⊢
  obtain ⟨b, hb⟩ : ∃ b, w.heap.size = b := ⟨_, rfl⟩
  obtain ⟨W1, hW1⟩ : ∃ W1, (((w.alloc (.cells #[.int .i64 most, .slice ra n rc] 31)).alloc (.cells #[.int .i64 3, .int .i64 m, .int .u32 (id : Nat)] 36)).alloc (.cells #[.int .i64 0, .slice none 0 0] 31)) = W1 := ⟨_, rfl⟩
  rw [hW1] at X
  obtain ⟨own1, hown1⟩ : ∃ own1, give own w.heap.size 8 = own1 := ⟨_, rfl⟩
  rw [hown1, hb] at X
  have G1 := Aside.mk (HG.it.sn X.it.n (fun e => HI.it.1 e.symm))
  obtain ⟨k0, k1, k2, k3⟩ := Sx.cells X
  obtain ⟨r0, r1, k5, k6, k7, k8⟩ := Sx.res X
  clear hg h hi hn hown1
  go_enter Tryd.func10, Tryd.ntmps10
  go_upto_region 1 with fail
  clear hW1 hb
  have BP := Aside.mk (btake X.it.t)
  obtain ⟨h1, hh1⟩ : ∃ h1, hd0 L = h1 := ⟨_, rfl⟩
  obtain ⟨s1, hs1⟩ : ∃ s1, some0 L = s1 := ⟨_, rfl⟩
  have e1 : ((h1 : Int) == h1) = true := by simp
  have e2 : (s1 == s1) = true := by simp
  rw [hh1, hs1] at BP
  go_upto_region 8 with (first
    | (go_at_call 17; refine BP.it.mono ?_; clear BP; rintro e w2 ⟨rfl, R2⟩)
    | fail)
  obtain ⟨own2, t2, s2⟩ := R2.it
  have X2 := Aside.mk (X.it.prog HI.it.2 t2 s2)
  have DP := Aside.mk (dtake most X2.it.d (by rw [HN.it]; exact LU))
  rw [hh1, hs1] at DP
  obtain ⟨k0', k1', k2', k3'⟩ := Sx.cells X2
  clear X k0 k1 k2 k3 k5 k6 k7 k8 t2 s2 R2 hh1 hs1
  go_upto_region 9 with (first
    | (go_at_call 25; refine DP.it.mono ?_; clear DP; rintro e w3 ⟨va, vl, vc, rfl, D3, K3⟩)
    | fail)
  obtain ⟨own3, Y3⟩ := X2.it.next K3.it D3.it
  have Yd := Aside.mk Y3
  clear D3 Y3 k0' k1' k2' k3' X2
  have U9 : Aside (L.tail.Nodup) := ⟨HU.it.sublist (List.tail_sublist _)⟩
  generalize hW3 : (w3.alloc (.cells #[.int .i64 most, .slice va vl vc] 31)) = W3 at Yd ⊢
  clear hW3
  generalize w3.heap.size = nb at Yd ⊢
  obtain ⟨n0, n1, n2⟩ := Sy.cells Yd
  have X9 := Aside.mk Yd.it.x
  obtain ⟨r0, r1, f0, f1, f2, f3⟩ := Sx.res X9
  have D9 := Aside.mk Yd.it.d
  have hne := Yd.it.n
  go_wp2_with fail
  all_goals
    obtain ⟨y0, y1, E⟩ := Sx.fin X9 D9 U9 HI.it.2
    generalize (W3.setCell ⟨b + 1 + 1, 0, none⟩ (.int .i64 most)).setCell ⟨b + 1 + 1, 1, none⟩ (.slice va vl vc) = V at y0 y1 E ⊢
    go_wp2
    refine bodyPost_ret (v := .tuple #[.agg #[.int .i64 most, .slice va vl vc], .bool true]) (by simp [results, Tryd.f10, go_sem, y0, y1]) rfl ?_
    first | exact E.it | exact E.it.drew

set_option maxRecDepth 20000 in
set_option maxHeartbeats 4000000 in
theorem step16_6 (own : Nat → Nat) (w : World) (hg : OnG A w0 own w) (h : Tp own i w p most L v) (m : Int) (id : Nat) (hi : i ≠ 0 ∧ i ≠ 8 ∧ i ≠ 9) :
    Calls Tryd.prog 10 #[ptr p, .agg #[.int .i64 most, v], .agg #[.int .i64 6, .int .i64 m, .int .u32 (id : Nat)]] w fun e w' => Ends16 own i w p most e w' := by
  have X := Aside.mk (Sx.start h 6 m id)
  have LU : L.length ≤ 1024 := by have := h.t.len; omega
  obtain ⟨ra, rc, rfl⟩ := h.d.slc
  have HU := Aside.mk h.u
  have HG := Aside.mk hg
  have HI := Aside.mk hi
  obtain ⟨n, hn⟩ : ∃ n, L.length = n := ⟨_, rfl⟩
  have HN := Aside.mk hn
  rw [hn] at X LU ⊢
  obtain ⟨b, hb⟩ : ∃ b, w.heap.size = b := ⟨_, rfl⟩
  obtain ⟨W1, hW1⟩ : ∃ W1, (((w.alloc (.cells #[.int .i64 most, .slice ra n rc] 31)).alloc (.cells #[.int .i64 6, .int .i64 m, .int .u32 (id : Nat)] 36)).alloc (.cells #[.int .i64 0, .slice none 0 0] 31)) = W1 := ⟨_, rfl⟩
  rw [hW1] at X
  obtain ⟨own1, hown1⟩ : ∃ own1, give own w.heap.size 8 = own1 := ⟨_, rfl⟩
  rw [hown1, hb] at X
  have G1 := Aside.mk (HG.it.sn X.it.n (fun e => HI.it.1 e.symm))
  obtain ⟨k0, k1, k2, k3⟩ := Sx.cells X
  obtain ⟨r0, r1, k5, k6, k7, k8⟩ := Sx.res X
  clear hg h hi hn hown1
  go_enter Tryd.func10, Tryd.ntmps10
  go_upto_region 1 with fail
  clear hW1 hb
  have BP := Aside.mk (bhead X.it.t)
  obtain ⟨h1, hh1⟩ : ∃ h1, hd0 L = h1 := ⟨_, rfl⟩
  obtain ⟨s1, hs1⟩ : ∃ s1, some0 L = s1 := ⟨_, rfl⟩
  have e1 : ((h1 : Int) == h1) = true := by simp
  have e2 : (s1 == s1) = true := by simp
  rw [hh1, hs1] at BP
  go_upto_region 17 with (first
    | (go_at_call 16; refine BP.it.mono ?_; clear BP; rintro e w2 ⟨rfl, K2⟩)
    | fail)
  have X2 := Aside.mk (X.it.quiet K2.it)
  have DP := Aside.mk (dtake most X2.it.d (by rw [HN.it]; exact LU))
  rw [hh1, hs1] at DP
  obtain ⟨k0', k1', k2', k3'⟩ := Sx.cells X2
  clear X k0 k1 k2 k3 k5 k6 k7 k8 hh1 hs1
  go_upto_region 18 with (first
    | (go_at_call 25; refine DP.it.mono ?_; clear DP; rintro e w3 ⟨va, vl, vc, rfl, D3, K3⟩)
    | fail)
  obtain ⟨own3, Y3⟩ := X2.it.next K3.it D3.it
  have X9 := Aside.mk Y3.x
  clear D3 Y3 k0' k1' k2' k3' X2
  generalize hW3 : (w3.alloc (.cells #[.int .i64 most, .slice va vl vc] 31)) = W3 at X9 ⊢
  clear hW3
  obtain ⟨n0, n1, n2, n3⟩ := Sx.cells X9
  obtain ⟨r0, r1, f0, f1, f2, f3⟩ := Sx.res X9
  have D9 := Aside.mk X9.it.d
  go_wp2_with fail
  all_goals
    obtain ⟨y0, y1, E⟩ := Sx.fin X9 D9 HU HI.it.2
    generalize (W3.setCell ⟨b + 1 + 1, 0, none⟩ (.int .i64 most)).setCell ⟨b + 1 + 1, 1, none⟩ (.slice ra n rc) = V at y0 y1 E ⊢
    go_wp2
    refine bodyPost_ret (v := .tuple #[.agg #[.int .i64 most, .slice ra n rc], .bool true]) (by simp [results, Tryd.f10, go_sem, y0, y1]) rfl ?_
    first | exact E.it | exact E.it.drew

/-- every way -/
theorem step16 (own : Nat → Nat) (w : World) (hg : OnG A w0 own w) (h : Tp own i w p most L v) (kd m : Int) (id : Nat) (hi : i ≠ 0 ∧ i ≠ 8 ∧ i ≠ 9) :
    Calls Tryd.prog 10 #[ptr p, .agg #[.int .i64 most, v], .agg #[.int .i64 kd, .int .i64 m, .int .u32 (id : Nat)]] w fun e w' => Ends16 own i w p most e w' := by
  by_cases h2 : kd = 2
  · subst h2; exact step16_2 own w hg h m id hi
  by_cases h3 : kd = 3
  · subst h3; exact step16_3 own w hg h m id hi
  by_cases h4 : kd = 4
  · subst h4; exact step16_4 own w hg h m id hi
  by_cases h5 : kd = 5
  · subst h5; exact step16_5 own w hg h m id hi
  by_cases h6 : kd = 6
  · subst h6; exact step16_6 own w hg h m id hi
  by_cases h7 : kd = 7
  · subst h7; exact step16_7 own w hg h m id hi
  exact step16_other own w hg h m id hi kd (fun j h0 h1 => beq_eq_false_iff_ne.2 (fun e => by omega))
end Go.Proofs.YtolmiecbgkdlfaaDoor
