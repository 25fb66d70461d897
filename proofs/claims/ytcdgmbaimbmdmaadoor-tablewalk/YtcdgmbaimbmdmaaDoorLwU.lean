/-
  culvertlaw15.step: its ways
-/
import Derived.Test.YtcdgmbaimbmdmaaDoorLwT
import Derived.BigRegion
import Derived.Deep.RegionHeldLaw
import Derived.Deep.RegionHeld3
namespace Go.Proofs.YtcdgmbaimbmdmaaDoor
open Go.RowKit Tbint

variable {A : Nat → Addr} {w w' W w0 : World} {own own' : Nat → Nat} {i p : Nat} {room : Int} {L L' : Tl Int} {v v' : Value} {I : Nat → Prop} {b : Nat}

theorem RdD.shape (h : RdD own w v L) : ∃ a c, v = .slice a L.length c ∧ L.length ≤ c := by
  obtain ⟨a, c, e, hl, _⟩ := h
  exact ⟨a, c, e, hl⟩
/-- the result box, written -/
theorem res_cells {o : Nat → Nat} {b : Nat} {r0 r1 x y : Value} (h : CellsO o 8 W b 31 [r0, r1]) : ((W.setCell ⟨b, 0, none⟩ x).setCell ⟨b, 1, none⟩ y).cell? ⟨b, 0, none⟩ = some x ∧ ((W.setCell ⟨b, 0, none⟩ x).setCell ⟨b, 1, none⟩ y).cell? ⟨b, 1, none⟩ = some y := by
  have h2 := (h.1.setCell 0 x).setCell 1 y
  exact ⟨by rw [h2.cell]; rfl, by rw [h2.cell]; rfl⟩

set_option maxRecDepth 20000 in
set_option maxHeartbeats 4000000 in
theorem step15_other (own : Nat → Nat) (w : World) (hg : OnG A w0 own w) (h : Tp own i w p room L v) (id : Nat) (x : Int) (_hid : id ≤ 4294967295) (hi : i ≠ 0 ∧ i ≠ 8 ∧ i ≠ 9) (kd : Int) (hk : ∀ j : Int, 1 ≤ j → j ≤ 9 → (kd == j) = false) :
    Calls Tryd.prog 7 #[ptr p, .agg #[.int .i64 room, v], .agg #[.int .i64 kd, .int .u32 (id : Nat), .int .i64 x]] w fun e w' => Ends15 own i w p room e w' := by
  obtain ⟨ROWS, hv⟩ : ∃ ROWS, v = ROWS := ⟨_, rfl⟩
  have X := Aside.mk (Sx.start h ⟨kd, id, x⟩)
  have LU := up_len h.t.up
  have hsh := h.d.shape
  obtain ⟨ra, rc, rfl, hrc⟩ := hsh
  clear hv ROWS
  have HG := Aside.mk hg
  have HI := Aside.mk hi
  obtain ⟨n, hn⟩ : ∃ n, L.length = n := ⟨_, rfl⟩
  have HN := Aside.mk hn
  rw [hn] at X hrc LU ⊢
  obtain ⟨b, hb⟩ : ∃ b, w.heap.size = b := ⟨_, rfl⟩
  obtain ⟨W1, hW1⟩ : ∃ W1, (((w.alloc (.cells #[.int .i64 room, .slice ra n rc] 31)).alloc (.cells #[.int .i64 kd, .int .u32 (id : Nat), .int .i64 x] 38)).alloc (.cells #[.int .i64 0, .slice none 0 0] 31)) = W1 := ⟨_, rfl⟩
  rw [hW1] at X
  obtain ⟨own1, hown1⟩ : ∃ own1, give own w.heap.size 8 = own1 := ⟨_, rfl⟩
  rw [hown1, hb] at X
  have G1 := Aside.mk (HG.it.sn X.it.n (fun e => HI.it.1 e.symm))
  obtain ⟨k0, k1, k2, k3, k4, ⟨r0, k5⟩, ⟨r1, k6⟩, k7, k8⟩ := X.it.s.cells
  clear hg h hi hn hown1
  go_enter Tryd.func7, Tryd.ntmps7
  go_upto_region 1 with fail
  clear hW1 hb
  have q1 := hk 1 (by decide) (by decide)
  have q2 := hk 2 (by decide) (by decide)
  have q3 := hk 3 (by decide) (by decide)
  have q4 := hk 4 (by decide) (by decide)
  have q5 := hk 5 (by decide) (by decide)
  have q6 := hk 6 (by decide) (by decide)
  have q7 := hk 7 (by decide) (by decide)
  have q8 := hk 8 (by decide) (by decide)
  have q9 := hk 9 (by decide) (by decide)
  clear hk
  go_wp2_with fail
  obtain ⟨s0, s1, hs2⟩ := X.it.s.c2
  obtain ⟨y0, y1⟩ := res_cells (x := .int .i64 room) (y := .slice ra n rc) hs2

  refine bodyPost_ret (v := .tuple #[.agg #[.int .i64 room, .slice ra n rc], .bool true]) (by simp [results, Tryd.f7, go_sem, y0, y1]) rfl ?_
  exact X.it.end HI.it.2 rfl rfl

set_option maxRecDepth 20000 in
set_option maxHeartbeats 4000000 in
theorem step15_2 (own : Nat → Nat) (w : World) (hg : OnG A w0 own w) (h : Tp own i w p room L v) (id : Nat) (x : Int) (hid : id ≤ 4294967295) (hi : i ≠ 0 ∧ i ≠ 8 ∧ i ≠ 9) :
    Calls Tryd.prog 7 #[ptr p, .agg #[.int .i64 room, v], .agg #[.int .i64 2, .int .u32 (id : Nat), .int .i64 x]] w fun e w' => Ends15 own i w p room e w' := by
  obtain ⟨ROWS, hv⟩ : ∃ ROWS, v = ROWS := ⟨_, rfl⟩
  have X := Aside.mk (Sx.start h ⟨2, id, x⟩)
  have LU := up_len h.t.up
  have hsh := h.d.shape
  obtain ⟨ra, rc, rfl, hrc⟩ := hsh
  clear hv ROWS
  have HG := Aside.mk hg
  have HI := Aside.mk hi
  obtain ⟨n, hn⟩ : ∃ n, L.length = n := ⟨_, rfl⟩
  have HN := Aside.mk hn
  rw [hn] at X hrc LU ⊢
  obtain ⟨b, hb⟩ : ∃ b, w.heap.size = b := ⟨_, rfl⟩
  obtain ⟨W1, hW1⟩ : ∃ W1, (((w.alloc (.cells #[.int .i64 room, .slice ra n rc] 31)).alloc (.cells #[.int .i64 2, .int .u32 (id : Nat), .int .i64 x] 38)).alloc (.cells #[.int .i64 0, .slice none 0 0] 31)) = W1 := ⟨_, rfl⟩
  rw [hW1] at X
  obtain ⟨own1, hown1⟩ : ∃ own1, give own w.heap.size 8 = own1 := ⟨_, rfl⟩
  rw [hown1, hb] at X
  have G1 := Aside.mk (HG.it.sn X.it.n (fun e => HI.it.1 e.symm))
  obtain ⟨k0, k1, k2, k3, k4, ⟨r0, k5⟩, ⟨r1, k6⟩, k7, k8⟩ := X.it.s.cells
  clear hg h hi hn hown1
  go_enter Tryd.func7, Tryd.ntmps7
  go_upto_region 1 with fail
  clear hW1 hb
  have GT := Aside.mk (Tbint.get_at X.it.t.t hid)
  have DG := Aside.mk (dget room id X.it.t.d (by rw [HN.it]; exact LU))
  have HU := Aside.mk X.it.t.t.up
  obtain ⟨o, ho⟩ : ∃ o, tlook L id = o := ⟨_, rfl⟩
  rw [ho] at GT DG
  have eg : gotV o = .int .i64 (o.getD 0) := by cases o <;> rfl
  rw [eg] at GT
  obtain ⟨g, hgg⟩ : ∃ g, o.getD 0 = g := ⟨_, rfl⟩
  obtain ⟨s, hss⟩ : ∃ s, o.isSome = s := ⟨_, rfl⟩
  rw [hgg, hss] at GT DG
  have e1 : (g == g) = true := by simp
  have e2 : (s == s) = true := by simp
  clear ho eg hgg hss
  go_upto_region 8 with (first
    | (go_at_call 11; refine GT.it.mono ?_; rintro e w2 ⟨rfl, hw2⟩; subst hw2)
    | (go_at_call 16; refine DG.it.mono ?_; rintro e w3 ⟨rfl, K3⟩)
    | fail)
  have X3 := Aside.mk (X.it.quiet K3.it)
  obtain ⟨l0, l1, l2, l3, l4, ⟨m0, l5⟩, ⟨m1, l6⟩, l7, l8⟩ := X3.it.s.cells
  go_wp2_with fail
  obtain ⟨s0, s1, hs2⟩ := X3.it.s.c2
  obtain ⟨y0, y1⟩ := res_cells (x := .int .i64 room) (y := .slice ra n rc) hs2

  refine bodyPost_ret (v := .tuple #[.agg #[.int .i64 room, .slice ra n rc], .bool true]) (by simp [results, Tryd.f7, go_sem, y0, y1]) rfl ?_
  exact X3.it.end HI.it.2 rfl rfl

set_option maxRecDepth 20000 in
set_option maxHeartbeats 4000000 in
theorem step15_4 (own : Nat → Nat) (w : World) (hg : OnG A w0 own w) (h : Tp own i w p room L v) (id : Nat) (x : Int) (_hid : id ≤ 4294967295) (hi : i ≠ 0 ∧ i ≠ 8 ∧ i ≠ 9) :
    Calls Tryd.prog 7 #[ptr p, .agg #[.int .i64 room, v], .agg #[.int .i64 4, .int .u32 (id : Nat), .int .i64 x]] w fun e w' => Ends15 own i w p room e w' := by
  obtain ⟨ROWS, hv⟩ : ∃ ROWS, v = ROWS := ⟨_, rfl⟩
  have X := Aside.mk (Sx.start h ⟨4, id, x⟩)
  have LU := up_len h.t.up
  have hsh := h.d.shape
  obtain ⟨ra, rc, rfl, hrc⟩ := hsh
  clear hv ROWS
  have HG := Aside.mk hg
  have HI := Aside.mk hi
  obtain ⟨n, hn⟩ : ∃ n, L.length = n := ⟨_, rfl⟩
  have HN := Aside.mk hn
  rw [hn] at X hrc LU ⊢
  obtain ⟨b, hb⟩ : ∃ b, w.heap.size = b := ⟨_, rfl⟩
  obtain ⟨W1, hW1⟩ : ∃ W1, (((w.alloc (.cells #[.int .i64 room, .slice ra n rc] 31)).alloc (.cells #[.int .i64 4, .int .u32 (id : Nat), .int .i64 x] 38)).alloc (.cells #[.int .i64 0, .slice none 0 0] 31)) = W1 := ⟨_, rfl⟩
  rw [hW1] at X
  obtain ⟨own1, hown1⟩ : ∃ own1, give own w.heap.size 8 = own1 := ⟨_, rfl⟩
  rw [hown1, hb] at X
  have G1 := Aside.mk (HG.it.sn X.it.n (fun e => HI.it.1 e.symm))
  obtain ⟨k0, k1, k2, k3, k4, ⟨r0, k5⟩, ⟨r1, k6⟩, k7, k8⟩ := X.it.s.cells
  clear hg h hi hn hown1
  go_enter Tryd.func7, Tryd.ntmps7
  go_upto_region 1 with fail
  clear hW1 hb
  have enn : ((n : Int) == n) = true := by simp
  go_upto_region 14 with fail
  have Xd := Aside.mk (X.it.quiet (Keeps.refl _ _).drew)
  clear X k0 k1 k2 k3 k4 k5 k6 k7 k8
  go_region_held3 (fun w' => w'.cell? ⟨b, 0, none⟩ = some (.int .i64 room) ∧ w'.cell? ⟨b, 1, none⟩ = some (.slice ra n rc) ∧ w'.cell? ⟨b + 1, 0, none⟩ = some (.int .i64 4) ∧ w'.cell? ⟨b + 1, 1, none⟩ = some (.int .u32 (id : Nat)) ∧ w'.cell? ⟨b + 1, 2, none⟩ = some (.int .i64 x)) (first | with_reducible exact Sx.h5 (by with_reducible assumption) | with_reducible exact Sx.h5S (by with_reducible assumption)) (first
    | (go_at_call 19; with_reducible refine (sx_len (by with_reducible assumption)).mono ?_; rintro e w9 ⟨rfl, P9⟩; rw [HN.it]; obtain ⟨r0, r1, f0, f1, f2, f3⟩ := Sx.res P9)
    | fail)
  all_goals
    obtain ⟨y0, y1, E⟩ := Sx.fin P9 HI.it.2
    generalize (w9.setCell ⟨b + 1 + 1, 0, none⟩ (.int .i64 room)).setCell ⟨b + 1 + 1, 1, none⟩ (.slice ra n rc) = V at y0 y1 E ⊢
    go_wp2
    refine bodyPost_ret (v := .tuple #[.agg #[.int .i64 room, .slice ra n rc], .bool true]) (by simp [results, Tryd.f7, go_sem, y0, y1]) rfl ?_
    exact E.it

set_option maxRecDepth 20000 in
set_option maxHeartbeats 4000000 in
theorem step15_5 (own : Nat → Nat) (w : World) (hg : OnG A w0 own w) (h : Tp own i w p room L v) (id : Nat) (x : Int) (_hid : id ≤ 4294967295) (hi : i ≠ 0 ∧ i ≠ 8 ∧ i ≠ 9) :
    Calls Tryd.prog 7 #[ptr p, .agg #[.int .i64 room, v], .agg #[.int .i64 5, .int .u32 (id : Nat), .int .i64 x]] w fun e w' => Ends15 own i w p room e w' := by
  obtain ⟨ROWS, hv⟩ : ∃ ROWS, v = ROWS := ⟨_, rfl⟩
  have X := Aside.mk (Sx.start h ⟨5, id, x⟩)
  have LU := up_len h.t.up
  have hsh := h.d.shape
  obtain ⟨ra, rc, rfl, hrc⟩ := hsh
  clear hv ROWS
  have HG := Aside.mk hg
  have HI := Aside.mk hi
  obtain ⟨n, hn⟩ : ∃ n, L.length = n := ⟨_, rfl⟩
  have HN := Aside.mk hn
  rw [hn] at X hrc LU ⊢
  obtain ⟨b, hb⟩ : ∃ b, w.heap.size = b := ⟨_, rfl⟩
  obtain ⟨W1, hW1⟩ : ∃ W1, (((w.alloc (.cells #[.int .i64 room, .slice ra n rc] 31)).alloc (.cells #[.int .i64 5, .int .u32 (id : Nat), .int .i64 x] 38)).alloc (.cells #[.int .i64 0, .slice none 0 0] 31)) = W1 := ⟨_, rfl⟩
  rw [hW1] at X
  obtain ⟨own1, hown1⟩ : ∃ own1, give own w.heap.size 8 = own1 := ⟨_, rfl⟩
  rw [hown1, hb] at X
  have G1 := Aside.mk (HG.it.sn X.it.n (fun e => HI.it.1 e.symm))
  obtain ⟨k0, k1, k2, k3, k4, ⟨r0, k5⟩, ⟨r1, k6⟩, k7, k8⟩ := X.it.s.cells
  clear hg h hi hn hown1
  go_enter Tryd.func7, Tryd.ntmps7
  go_upto_region 1 with fail
  clear hW1 hb
  go_upto_region 16 with fail
  have Xd := Aside.mk (X.it.quiet (Keeps.refl _ _).drew)
  clear X k0 k1 k2 k3 k4 k5 k6 k7 k8
  go_region_held3 (fun w' => w'.cell? ⟨b, 0, none⟩ = some (.int .i64 room) ∧ w'.cell? ⟨b, 1, none⟩ = some (.slice ra n rc) ∧ w'.cell? ⟨b + 1, 0, none⟩ = some (.int .i64 5) ∧ w'.cell? ⟨b + 1, 1, none⟩ = some (.int .u32 (id : Nat)) ∧ w'.cell? ⟨b + 1, 2, none⟩ = some (.int .i64 x)) (first | with_reducible exact Sx.h5 (by with_reducible assumption) | with_reducible exact Sx.h5S (by with_reducible assumption)) (first
    | (go_at_call 13; with_reducible refine (sx_same (by with_reducible assumption) (by with_reducible assumption) (by with_reducible assumption)).mono ?_; rintro e w9 ⟨rfl, P9⟩; obtain ⟨r0, r1, f0, f1, f2, f3⟩ := Sx.res P9)
    | (go_at_call 20; with_reducible refine (sx_dids (by with_reducible assumption) (by with_reducible assumption)).mono ?_; rintro e w6 ⟨v2, rfl, R2, R1, P6⟩)
    | (go_at_call 14; with_reducible refine (sx_ids (by with_reducible assumption)).mono ?_; rintro e w5 ⟨g, cap, rfl, R1, P5⟩; rw [HN.it] at R1 ⊢)
    | fail)
  all_goals
    obtain ⟨y0, y1, E⟩ := Sx.fin P9 HI.it.2
    generalize (w9.setCell ⟨b + 1 + 1, 0, none⟩ (.int .i64 room)).setCell ⟨b + 1 + 1, 1, none⟩ (.slice ra n rc) = V at y0 y1 E ⊢
    go_wp2
    refine bodyPost_ret (v := .tuple #[.agg #[.int .i64 room, .slice ra n rc], .bool true]) (by simp [results, Tryd.f7, go_sem, y0, y1]) rfl ?_
    exact E.it

set_option maxRecDepth 20000 in
set_option maxHeartbeats 4000000 in
theorem step15_6 (own : Nat → Nat) (w : World) (hg : OnG A w0 own w) (h : Tp own i w p room L v) (id : Nat) (x : Int) (_hid : id ≤ 4294967295) (hi : i ≠ 0 ∧ i ≠ 8 ∧ i ≠ 9) :
    Calls Tryd.prog 7 #[ptr p, .agg #[.int .i64 room, v], .agg #[.int .i64 6, .int .u32 (id : Nat), .int .i64 x]] w fun e w' => Ends15 own i w p room e w' := by
  obtain ⟨ROWS, hv⟩ : ∃ ROWS, v = ROWS := ⟨_, rfl⟩
  have X := Aside.mk (Sx.start h ⟨6, id, x⟩)
  have LU := up_len h.t.up
  have hsh := h.d.shape
  obtain ⟨ra, rc, rfl, hrc⟩ := hsh
  clear hv ROWS
  have HG := Aside.mk hg
  have HI := Aside.mk hi
  obtain ⟨n, hn⟩ : ∃ n, L.length = n := ⟨_, rfl⟩
  have HN := Aside.mk hn
  rw [hn] at X hrc LU ⊢
  obtain ⟨b, hb⟩ : ∃ b, w.heap.size = b := ⟨_, rfl⟩
  obtain ⟨W1, hW1⟩ : ∃ W1, (((w.alloc (.cells #[.int .i64 room, .slice ra n rc] 31)).alloc (.cells #[.int .i64 6, .int .u32 (id : Nat), .int .i64 x] 38)).alloc (.cells #[.int .i64 0, .slice none 0 0] 31)) = W1 := ⟨_, rfl⟩
  rw [hW1] at X
  obtain ⟨own1, hown1⟩ : ∃ own1, give own w.heap.size 8 = own1 := ⟨_, rfl⟩
  rw [hown1, hb] at X
  have G1 := Aside.mk (HG.it.sn X.it.n (fun e => HI.it.1 e.symm))
  obtain ⟨k0, k1, k2, k3, k4, ⟨r0, k5⟩, ⟨r1, k6⟩, k7, k8⟩ := X.it.s.cells
  clear hg h hi hn hown1
  go_enter Tryd.func7, Tryd.ntmps7
  go_upto_region 1 with fail
  clear hW1 hb
  go_upto_region 18 with fail
  have Xd := Aside.mk (X.it.quiet (Keeps.refl _ _).drew)
  clear X k0 k1 k2 k3 k4 k5 k6 k7 k8
  go_region_held3 (fun w' => w'.cell? ⟨b, 0, none⟩ = some (.int .i64 room) ∧ w'.cell? ⟨b, 1, none⟩ = some (.slice ra n rc) ∧ w'.cell? ⟨b + 1, 0, none⟩ = some (.int .i64 6) ∧ w'.cell? ⟨b + 1, 1, none⟩ = some (.int .u32 (id : Nat)) ∧ w'.cell? ⟨b + 1, 2, none⟩ = some (.int .i64 x)) (first | with_reducible exact Sx.h5 (by with_reducible assumption) | with_reducible exact Sx.h5S (by with_reducible assumption)) (first
    | (go_at_call 9; with_reducible refine (sx_walked (by with_reducible assumption) room).mono ?_; rintro e w9 ⟨rfl, P9⟩; obtain ⟨r0, r1, f0, f1, f2, f3⟩ := Sx.res P9)
    | fail)
  all_goals
    obtain ⟨y0, y1, E⟩ := Sx.fin P9 HI.it.2
    generalize (w9.setCell ⟨b + 1 + 1, 0, none⟩ (.int .i64 room)).setCell ⟨b + 1 + 1, 1, none⟩ (.slice ra n rc) = V at y0 y1 E ⊢
    go_wp2
    refine bodyPost_ret (v := .tuple #[.agg #[.int .i64 room, .slice ra n rc], .bool true]) (by simp [results, Tryd.f7, go_sem, y0, y1]) rfl ?_
    exact E.it

set_option maxRecDepth 20000 in
set_option maxHeartbeats 4000000 in
theorem step15_7 (own : Nat → Nat) (w : World) (hg : OnG A w0 own w) (h : Tp own i w p room L v) (id : Nat) (x : Int) (_hid : id ≤ 4294967295) (hi : i ≠ 0 ∧ i ≠ 8 ∧ i ≠ 9) :
    Calls Tryd.prog 7 #[ptr p, .agg #[.int .i64 room, v], .agg #[.int .i64 7, .int .u32 (id : Nat), .int .i64 x]] w fun e w' => Ends15 own i w p room e w' := by
  obtain ⟨ROWS, hv⟩ : ∃ ROWS, v = ROWS := ⟨_, rfl⟩
  have X := Aside.mk (Sx.start h ⟨7, id, x⟩)
  have LU := up_len h.t.up
  have hsh := h.d.shape
  obtain ⟨ra, rc, rfl, hrc⟩ := hsh
  clear hv ROWS
  have HG := Aside.mk hg
  have HI := Aside.mk hi
  obtain ⟨n, hn⟩ : ∃ n, L.length = n := ⟨_, rfl⟩
  have HN := Aside.mk hn
  rw [hn] at X hrc LU ⊢
  obtain ⟨b, hb⟩ : ∃ b, w.heap.size = b := ⟨_, rfl⟩
  obtain ⟨W1, hW1⟩ : ∃ W1, (((w.alloc (.cells #[.int .i64 room, .slice ra n rc] 31)).alloc (.cells #[.int .i64 7, .int .u32 (id : Nat), .int .i64 x] 38)).alloc (.cells #[.int .i64 0, .slice none 0 0] 31)) = W1 := ⟨_, rfl⟩
  rw [hW1] at X
  obtain ⟨own1, hown1⟩ : ∃ own1, give own w.heap.size 8 = own1 := ⟨_, rfl⟩
  rw [hown1, hb] at X
  have G1 := Aside.mk (HG.it.sn X.it.n (fun e => HI.it.1 e.symm))
  obtain ⟨k0, k1, k2, k3, k4, ⟨r0, k5⟩, ⟨r1, k6⟩, k7, k8⟩ := X.it.s.cells
  clear hg h hi hn hown1
  go_enter Tryd.func7, Tryd.ntmps7
  go_upto_region 1 with fail
  clear hW1 hb
  go_upto_region 20 with fail
  have Xd := Aside.mk (X.it.quiet (Keeps.refl _ _).drew)
  clear X k0 k1 k2 k3 k4 k5 k6 k7 k8
  go_region_held3 (fun w' => w'.cell? ⟨b, 0, none⟩ = some (.int .i64 room) ∧ w'.cell? ⟨b, 1, none⟩ = some (.slice ra n rc) ∧ w'.cell? ⟨b + 1, 0, none⟩ = some (.int .i64 7) ∧ w'.cell? ⟨b + 1, 1, none⟩ = some (.int .u32 (id : Nat)) ∧ w'.cell? ⟨b + 1, 2, none⟩ = some (.int .i64 x)) (first | with_reducible exact Sx.h5 (by with_reducible assumption) | with_reducible exact Sx.h5S (by with_reducible assumption)) (first
    | (go_at_call 21; with_reducible refine (sx_counts (by with_reducible assumption) room 7 id x).mono ?_; rintro e w9 ⟨rfl, P9⟩; obtain ⟨r0, r1, f0, f1, f2, f3⟩ := Sx.res P9)
    | fail)
  all_goals
    obtain ⟨y0, y1, E⟩ := Sx.fin P9 HI.it.2
    generalize (w9.setCell ⟨b + 1 + 1, 0, none⟩ (.int .i64 room)).setCell ⟨b + 1 + 1, 1, none⟩ (.slice ra n rc) = V at y0 y1 E ⊢
    go_wp2
    refine bodyPost_ret (v := .tuple #[.agg #[.int .i64 room, .slice ra n rc], .bool true]) (by simp [results, Tryd.f7, go_sem, y0, y1]) rfl ?_
    exact E.it

set_option maxRecDepth 20000 in
set_option maxHeartbeats 4000000 in
theorem step15_9 (own : Nat → Nat) (w : World) (hg : OnG A w0 own w) (h : Tp own i w p room L v) (id : Nat) (x : Int) (_hid : id ≤ 4294967295) (hi : i ≠ 0 ∧ i ≠ 8 ∧ i ≠ 9) :
    Calls Tryd.prog 7 #[ptr p, .agg #[.int .i64 room, v], .agg #[.int .i64 9, .int .u32 (id : Nat), .int .i64 x]] w fun e w' => Ends15 own i w p room e w' := by
  obtain ⟨ROWS, hv⟩ : ∃ ROWS, v = ROWS := ⟨_, rfl⟩
  have X := Aside.mk (Sx.start h ⟨9, id, x⟩)
  have LU := up_len h.t.up
  have hsh := h.d.shape
  obtain ⟨ra, rc, rfl, hrc⟩ := hsh
  clear hv ROWS
  have HG := Aside.mk hg
  have HI := Aside.mk hi
  obtain ⟨n, hn⟩ : ∃ n, L.length = n := ⟨_, rfl⟩
  have HN := Aside.mk hn
  rw [hn] at X hrc LU ⊢
  obtain ⟨b, hb⟩ : ∃ b, w.heap.size = b := ⟨_, rfl⟩
  obtain ⟨W1, hW1⟩ : ∃ W1, (((w.alloc (.cells #[.int .i64 room, .slice ra n rc] 31)).alloc (.cells #[.int .i64 9, .int .u32 (id : Nat), .int .i64 x] 38)).alloc (.cells #[.int .i64 0, .slice none 0 0] 31)) = W1 := ⟨_, rfl⟩
  rw [hW1] at X
  obtain ⟨own1, hown1⟩ : ∃ own1, give own w.heap.size 8 = own1 := ⟨_, rfl⟩
  rw [hown1, hb] at X
  have G1 := Aside.mk (HG.it.sn X.it.n (fun e => HI.it.1 e.symm))
  obtain ⟨k0, k1, k2, k3, k4, ⟨r0, k5⟩, ⟨r1, k6⟩, k7, k8⟩ := X.it.s.cells
  clear hg h hi hn hown1
  go_enter Tryd.func7, Tryd.ntmps7
  go_upto_region 1 with fail
  clear hW1 hb
  go_upto_region 26 with fail
  have Xd := Aside.mk (X.it.quiet (Keeps.refl _ _).drew)
  clear X k0 k1 k2 k3 k4 k5 k6 k7 k8
  go_region_held3 (fun w' => w'.cell? ⟨b, 0, none⟩ = some (.int .i64 room) ∧ w'.cell? ⟨b, 1, none⟩ = some (.slice ra n rc) ∧ w'.cell? ⟨b + 1, 0, none⟩ = some (.int .i64 9) ∧ w'.cell? ⟨b + 1, 1, none⟩ = some (.int .u32 (id : Nat)) ∧ w'.cell? ⟨b + 1, 2, none⟩ = some (.int .i64 x)) (first | with_reducible exact Sx.h5 (by with_reducible assumption) | with_reducible exact Sx.h5S (by with_reducible assumption)) (first
    | (go_at_call 23; with_reducible refine (sx_none (by with_reducible assumption)).mono ?_; rintro e w9 ⟨rfl, P9⟩; obtain ⟨r0, r1, f0, f1, f2, f3⟩ := Sx.res P9)
    | fail)
  all_goals
    obtain ⟨y0, y1, E⟩ := Sx.fin P9 HI.it.2
    generalize (w9.setCell ⟨b + 1 + 1, 0, none⟩ (.int .i64 room)).setCell ⟨b + 1 + 1, 1, none⟩ (.slice ra n rc) = V at y0 y1 E ⊢
    go_wp2
    refine bodyPost_ret (v := .tuple #[.agg #[.int .i64 room, .slice ra n rc], .bool true]) (by simp [results, Tryd.f7, go_sem, y0, y1]) rfl ?_
    exact E.it

end Go.Proofs.YtcdgmbaimbmdmaaDoor
