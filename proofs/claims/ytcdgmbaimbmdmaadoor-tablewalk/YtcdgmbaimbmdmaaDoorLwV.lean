/-
  culvertlaw15.step: Put, Drop, Clear; every way
-/
import Derived.Test.YtcdgmbaimbmdmaaDoorLwU
import Derived.Test.YtcdgmbaimbmdmaaDoorTbCint
namespace Go.Proofs.YtcdgmbaimbmdmaaDoor
open Go.RowKit Tbint

variable {A : Nat → Addr} {w w' W w0 : World} {own own' : Nat → Nat} {i p nb : Nat} {room : Int} {L L' Ln : Tl Int} {v v' vn : Value} {I : Nat → Prop} {b : Nat} {z : OpV15}

theorem Sx.box (h : Sx own i w own' W p room L b z v' v) (hi : i ≠ 8 ∧ i ≠ 9) (u : Value) : Sx own i w own' (W.setCell ⟨b, 1, none⟩ u) p room L b z u v := by
  have s8 : Sn (fun k => k = 8) own' W own' (W.setCell ⟨b, 1, none⟩ u) := ⟨fun _ _ => rfl, (Keeps.refl _ _).setCell _ _ (fun _ => h.s.c0.2)⟩
  obtain ⟨r0, r1, h2⟩ := h.s.c2
  refine ⟨h.t.sn s8 hi.1 (by decide), ⟨⟨h.s.c0.1.setCell 1 u, h.s.c0.2⟩, ⟨h.s.c1.1.setOther _ _ (by simp), h.s.c1.2⟩, r0, r1, ⟨h2.1.setOther _ _ (by simp; omega), h2.2⟩⟩, ⟨h.n.agree, ?_⟩, h.b⟩
  exact h.n.keeps.next (S' := fun k => k = b) ((Keeps.refl (fun k => k = b) W).setCell ⟨b, 1, none⟩ _ (fun _ => rfl)) (fun k e hlt => by have := h.b; omega)
theorem Sx.table' (h : Sx own i w own' W p room L b z v' v) {own2 : Nat → Nat} (h1 : TbO own2 i w' p room L') (s : Sn (fun k => k = i) own' W own2 w') (hi : i ≠ 8 ∧ i ≠ 9) (hd : RdD own2 w' vn L') : Sx own i w own2 w' p room L' b z v' vn :=
  ⟨⟨h1, hd⟩, h.s.sn s (fun e => hi.1 e.symm), h.n.trans s, h.b⟩
theorem sx_clear (h : Aside (Sx own i w own' W p room L b z v' v)) (hi : i ≠ 8 ∧ i ≠ 9) : Calls Tryd.prog 22 #[ptr p] W fun e w' => ∃ own2, e = .returned (.int .i64 L.length) ∧ Aside (Sx own i w own2 w' p room [] b z v' (.slice none 0 0)) := by
  refine (clear_at h.it.t.t).mono ?_
  rintro e w' ⟨own2, rfl, Y⟩
  exact ⟨own2, rfl, ⟨h.it.table' Y.it.1 Y.it.2 hi (RdD.nil _ _)⟩⟩

/-- the next table in its box -/
structure Sy (own : Nat → Nat) (i : Nat) (w : World) (own' : Nat → Nat) (W : World) (p : Nat) (room : Int) (L : Tl Int) (b : Nat) (z : OpV15) (v' v : Value) (nb : Nat) (vn : Value) (Ln : Tl Int) : Prop where
  x : Sx own i w own' W p room L b z v' v
  d : RdD own' W vn Ln
  c : CellsO own' 8 W nb 31 [.int .i64 room, vn]
  n : ¬ nb = b + 1 + 1
theorem Sy.quiet (h : Sy own i w own' W p room L b z v' v nb vn Ln) (hk : Keeps Nowhere W w') : Sy own i w own' w' p room L b z v' v nb vn Ln := ⟨h.x.quiet hk, h.d.quiet hk, h.c.sn (I := fun _ => False) (Sn.same hk) (fun x => x), h.n⟩
theorem Sy.h5 (h : Aside (Sy own i w own' W p room L b z v' v nb vn Ln)) : W.cell? ⟨nb, 0, none⟩ = some (.int .i64 room) ∧ W.cell? ⟨nb, 1, none⟩ = some vn ∧ W.cell? ⟨b + 1, 1, none⟩ = some (.int .u32 (z.id : Nat)) ∧ W.cell? ⟨b + 1, 2, none⟩ = some (.int .i64 z.v) := by
  obtain ⟨_, _, _, h3, h4, _⟩ := h.it.x.s.cells
  exact ⟨by rw [h.it.c.1.cell]; rfl, by rw [h.it.c.1.cell]; rfl, h3, h4⟩
theorem Sy.h5S (h : Aside (Sy own i w own' W p room L b z v' v nb vn Ln)) {x y : Value} : ((W.setCell ⟨b + 1 + 1, 0, none⟩ x).setCell ⟨b + 1 + 1, 1, none⟩ y).cell? ⟨nb, 0, none⟩ = some (.int .i64 room) ∧ ((W.setCell ⟨b + 1 + 1, 0, none⟩ x).setCell ⟨b + 1 + 1, 1, none⟩ y).cell? ⟨nb, 1, none⟩ = some vn ∧ ((W.setCell ⟨b + 1 + 1, 0, none⟩ x).setCell ⟨b + 1 + 1, 1, none⟩ y).cell? ⟨b + 1, 1, none⟩ = some (.int .u32 (z.id : Nat)) ∧ ((W.setCell ⟨b + 1 + 1, 0, none⟩ x).setCell ⟨b + 1 + 1, 1, none⟩ y).cell? ⟨b + 1, 2, none⟩ = some (.int .i64 z.v) := by
  have e0 := (h.it.c.1.setOther ⟨b + 1 + 1, 0, none⟩ x h.it.n).setOther ⟨b + 1 + 1, 1, none⟩ y h.it.n
  have e1 := (h.it.x.s.c1.1.setOther ⟨b + 1 + 1, 0, none⟩ x (by simp)).setOther ⟨b + 1 + 1, 1, none⟩ y (by simp)
  exact ⟨by rw [e0.cell]; rfl, by rw [e0.cell]; rfl, by rw [e1.cell]; rfl, by rw [e1.cell]; rfl⟩
theorem Sy.res (h : Aside (Sy own i w own' W p room L b z v' v nb vn Ln)) : ∃ r0 r1, W.cell? ⟨b + 1 + 1, 0, none⟩ = some r0 ∧ W.cell? ⟨b + 1 + 1, 1, none⟩ = some r1 ∧ W.frozen? ⟨b + 1 + 1, 0, none⟩ = false ∧ W.frozen? ⟨b + 1 + 1, 1, none⟩ = false := Sx.res ⟨h.it.x⟩
/-- the next table is laid into its box -/
theorem Sx.next (h : Sx own i w own' W p room L b z v' v) (hd : RdD own' W vn Ln) : Sy own i w (give own' W.heap.size 8) (W.alloc (.cells #[.int .i64 room, vn] 31)) p room L b z v' v W.heap.size vn Ln := by
  obtain ⟨r0, r1, h2⟩ := h.s.c2
  refine ⟨h.step ((Keeps.refl _ _).alloc _) 8, hd.step ((Keeps.refl _ _).alloc _) 8, ⟨Cells.new W _ [.int .i64 room, vn], give_new (Nat.le_refl _)⟩, ?_⟩
  have := h2.1.lt
  omega
theorem sy_put {id : Nat} {x : Int} (h : Aside (Sy own i w own' W p room L b z v' v nb vn (Tbint.putL room L id x))) (hid : id ≤ 4294967295) (hg : OnG A w0 own w) (hi : i ≠ 0 ∧ i ≠ 8 ∧ i ≠ 9) : Calls Tryd.prog 10 #[ptr p, .int .u32 (id : Nat), .int .i64 x] W fun e w' => ∃ ev, e = .returned ev ∧ Hid (Coded A ev (putC room L id)) ∧ Aside (Sents 110 codeVars A w') ∧ Aside (Sy own i w own' w' p room (Tbint.putL room L id x) b z v' vn nb vn (Tbint.putL room L id x)) := by
  have G := hg.sn h.it.x.n (fun e => hi.1 e.symm)
  refine (put_at h.it.x.t.t hid x G.sents).mono ?_
  rintro e w' ⟨ev, rfl, C, Y⟩
  have d2 := h.it.d.sn Y.it.2 (fun e => hi.2.2 e.symm)
  exact ⟨ev, rfl, C, ⟨(G.sn Y.it.2 (fun e => hi.1 e.symm)).sents⟩, ⟨h.it.x.table' Y.it.1 Y.it.2 hi.2 d2, d2, h.it.c.sn Y.it.2 (fun e => hi.2.1 e.symm), h.it.n⟩⟩
theorem sy_drop {id : Nat} (h : Aside (Sy own i w own' W p room L b z v' v nb vn (tdel L id))) (hid : id ≤ 4294967295) (hi : i ≠ 0 ∧ i ≠ 8 ∧ i ≠ 9) : Calls Tryd.prog 18 #[ptr p, .int .u32 (id : Nat)] W fun e w' => e = .returned (.tuple #[gotV (tlook L id), .bool (tlook L id).isSome]) ∧ Aside (Sy own i w own' w' p room (tdel L id) b z v' vn nb vn (tdel L id)) := by
  refine (drop_at h.it.x.t.t hid).mono ?_
  rintro e w' ⟨rfl, Y⟩
  have d2 := h.it.d.sn Y.it.2 (fun e => hi.2.2 e.symm)
  exact ⟨rfl, ⟨h.it.x.table' Y.it.1 Y.it.2 hi.2 d2, d2, h.it.c.sn Y.it.2 (fun e => hi.2.1 e.symm), h.it.n⟩⟩

set_option maxRecDepth 20000 in
set_option maxHeartbeats 4000000 in
theorem step15_8 (own : Nat → Nat) (w : World) (hg : OnG A w0 own w) (h : Tp own i w p room L v) (id : Nat) (x : Int) (_hid : id ≤ 4294967295) (hi : i ≠ 0 ∧ i ≠ 8 ∧ i ≠ 9) :
    Calls Tryd.prog 7 #[ptr p, .agg #[.int .i64 room, v], .agg #[.int .i64 8, .int .u32 (id : Nat), .int .i64 x]] w fun e w' => Ends15 own i w p room e w' := by
  obtain ⟨ROWS, hv⟩ : ∃ ROWS, v = ROWS := ⟨_, rfl⟩
  have X := Aside.mk (Sx.start h ⟨8, id, x⟩)
  have LU := up_len h.t.up
  have hsh := h.d.shape
  obtain ⟨ra, rc, rfl, hrc⟩ := hsh
  clear hv ROWS
  have HG := Aside.mk hg
  have HI := Aside.mk hi
  obtain ⟨n, hn⟩ : ∃ n, L.length = n := ⟨_, rfl⟩
  have HN := Aside.mk hn
  rw [hn] at X hrc LU ⊢
  obtain ⟨b, hb⟩ : ∃ b, w.heap.size = b := ⟨_, rfl⟩
  obtain ⟨W1, hW1⟩ : ∃ W1, (((w.alloc (.cells #[.int .i64 room, .slice ra n rc] 31)).alloc (.cells #[.int .i64 8, .int .u32 (id : Nat), .int .i64 x] 38)).alloc (.cells #[.int .i64 0, .slice none 0 0] 31)) = W1 := ⟨_, rfl⟩
  rw [hW1] at X
  obtain ⟨own1, hown1⟩ : ∃ own1, give own w.heap.size 8 = own1 := ⟨_, rfl⟩
  rw [hown1, hb] at X
  have G1 := Aside.mk (HG.it.sn X.it.n (fun e => HI.it.1 e.symm))
  obtain ⟨k0, k1, k2, k3, k4, ⟨r0, k5⟩, ⟨r1, k6⟩, k7, k8⟩ := X.it.s.cells
  clear hg h hi hn hown1
  go_enter Tryd.func7, Tryd.ntmps7
  go_upto_region 1 with fail
  clear hW1 hb
  have c1f : W1.frozen? ⟨b, 1, none⟩ = false := X.it.s.c0.1.frozen 1
  have enn : ((n : Int) == n) = true := by simp
  go_upto_region 24 with fail
  have X2 := Aside.mk ((X.it.box HI.it.2 (.slice none 0 0)).quiet (Keeps.refl _ _).drew)
  clear X k0 k1 k2 k3 k4 k5 k6 k7 k8 c1f
  generalize W1.setCell ⟨b, 1, none⟩ (.slice none 0 0) = W2 at X2 ⊢
  go_region_held3 (fun w' => w'.cell? ⟨b, 0, none⟩ = some (.int .i64 room) ∧ w'.cell? ⟨b, 1, none⟩ = some (.slice none 0 0) ∧ w'.cell? ⟨b + 1, 0, none⟩ = some (.int .i64 8) ∧ w'.cell? ⟨b + 1, 1, none⟩ = some (.int .u32 (id : Nat)) ∧ w'.cell? ⟨b + 1, 2, none⟩ = some (.int .i64 x)) (first | with_reducible exact Sx.h5 (by with_reducible assumption) | with_reducible exact Sx.h5S (by with_reducible assumption)) (first
    | (go_at_call 22; with_reducible refine (sx_clear (by with_reducible assumption) HI.it.2).mono ?_; rintro e w9 ⟨own9, rfl, P9⟩; rw [HN.it]; obtain ⟨r0, r1, f0, f1, f2, f3⟩ := Sx.res P9)
    | fail)
  all_goals
    obtain ⟨y0, y1, E⟩ := Sx.fin P9 HI.it.2
    generalize (w9.setCell ⟨b + 1 + 1, 0, none⟩ (.int .i64 room)).setCell ⟨b + 1 + 1, 1, none⟩ (.slice none 0 0) = V at y0 y1 E ⊢
    go_wp2
    refine bodyPost_ret (v := .tuple #[.agg #[.int .i64 room, .slice none 0 0], .bool true]) (by simp [results, Tryd.f7, go_sem, y0, y1]) rfl ?_
    exact E.it

set_option maxRecDepth 20000 in
set_option maxHeartbeats 4000000 in
theorem step15_1 (own : Nat → Nat) (w : World) (hg : OnG A w0 own w) (h : Tp own i w p room L v) (id : Nat) (x : Int) (hid : id ≤ 4294967295) (hi : i ≠ 0 ∧ i ≠ 8 ∧ i ≠ 9) :
    Calls Tryd.prog 7 #[ptr p, .agg #[.int .i64 room, v], .agg #[.int .i64 1, .int .u32 (id : Nat), .int .i64 x]] w fun e w' => Ends15 own i w p room e w' := by
  obtain ⟨ROWS, hv⟩ : ∃ ROWS, v = ROWS := ⟨_, rfl⟩
  have X := Aside.mk (Sx.start h ⟨1, id, x⟩)
  have LU := up_len h.t.up
  have hsh := h.d.shape
  obtain ⟨ra, rc, rfl, hrc⟩ := hsh
  clear hv ROWS
  have HG := Aside.mk hg
  have HI := Aside.mk hi
  obtain ⟨n, hn⟩ : ∃ n, L.length = n := ⟨_, rfl⟩
  have HN := Aside.mk hn
  rw [hn] at X hrc LU ⊢
  obtain ⟨b, hb⟩ : ∃ b, w.heap.size = b := ⟨_, rfl⟩
  obtain ⟨W1, hW1⟩ : ∃ W1, (((w.alloc (.cells #[.int .i64 room, .slice ra n rc] 31)).alloc (.cells #[.int .i64 1, .int .u32 (id : Nat), .int .i64 x] 38)).alloc (.cells #[.int .i64 0, .slice none 0 0] 31)) = W1 := ⟨_, rfl⟩
  rw [hW1] at X
  obtain ⟨own1, hown1⟩ : ∃ own1, give own w.heap.size 8 = own1 := ⟨_, rfl⟩
  rw [hown1, hb] at X
  have G1 := Aside.mk (HG.it.sn X.it.n (fun e => HI.it.1 e.symm))
  obtain ⟨k0, k1, k2, k3, k4, ⟨r0, k5⟩, ⟨r1, k6⟩, k7, k8⟩ := X.it.s.cells
  clear hg h hi hn hown1
  go_enter Tryd.func7, Tryd.ntmps7
  go_upto_region 1 with fail
  clear hW1 hb
  have DP := Aside.mk (dput room id x X.it.t.d (by rw [HN.it]; exact LU))
  go_upto_region 4 with (first
    | (go_at_call 15; refine DP.it.mono ?_; rintro e w2 ⟨vn, rfl, D2, K2⟩; obtain ⟨va, vc, hvn, _⟩ := D2.it.shape; subst hvn)
    | fail)
  have Y3 := Aside.mk (((X.it.step K2.it 9).next D2.it).quiet (Keeps.refl _ _).drew)
  have hz : ∀ c : Int, (c == c) = true := fun c => by simp
  have hcc := hz (putC room L id)
  clear X k0 k1 k2 k3 k4 k5 k6 k7 k8 DP D2 hz
  generalize (Tbint.putL room L id x).length = nl at Y3 ⊢
  generalize hW3 : (w2.alloc (.cells #[.int .i64 room, .slice va nl vc] 31)) = W3 at Y3 ⊢
  clear hW3
  generalize w2.heap.size = nb at Y3 ⊢
  go_region_held3 (fun w' => w'.cell? ⟨nb, 0, none⟩ = some (.int .i64 room) ∧ w'.cell? ⟨nb, 1, none⟩ = some (.slice va nl vc) ∧ w'.cell? ⟨b + 1, 1, none⟩ = some (.int .u32 (id : Nat)) ∧ w'.cell? ⟨b + 1, 2, none⟩ = some (.int .i64 x)) (first | with_reducible exact Sy.h5 (by with_reducible assumption) | with_reducible exact Sy.h5S (by with_reducible assumption)) (first
    | (go_at_call 12; with_reducible refine (code_of S8.it C8.out).mono ?_; rintro e w9 ⟨rfl, hw9⟩; subst hw9)
    | (go_at_call 10; with_reducible refine (sy_put (by with_reducible assumption) hid HG.it HI.it).mono ?_; rintro e w8 ⟨ev, rfl, C8, S8, P9⟩; obtain ⟨r0, r1, f0, f1, f2, f3⟩ := Sy.res P9)
    | fail)
  all_goals have XF := Aside.mk P9.it.x
  all_goals
    obtain ⟨y0, y1, E⟩ := Sx.fin XF HI.it.2
    generalize (w9.setCell ⟨b + 1 + 1, 0, none⟩ (.int .i64 room)).setCell ⟨b + 1 + 1, 1, none⟩ (.slice va nl vc) = V at y0 y1 E ⊢
    go_wp2
    refine bodyPost_ret (v := .tuple #[.agg #[.int .i64 room, .slice va nl vc], .bool true]) (by simp [results, Tryd.f7, go_sem, y0, y1]) rfl ?_
    exact E.it

set_option maxRecDepth 20000 in
set_option maxHeartbeats 4000000 in
theorem step15_3 (own : Nat → Nat) (w : World) (hg : OnG A w0 own w) (h : Tp own i w p room L v) (id : Nat) (x : Int) (hid : id ≤ 4294967295) (hi : i ≠ 0 ∧ i ≠ 8 ∧ i ≠ 9) :
    Calls Tryd.prog 7 #[ptr p, .agg #[.int .i64 room, v], .agg #[.int .i64 3, .int .u32 (id : Nat), .int .i64 x]] w fun e w' => Ends15 own i w p room e w' := by
  obtain ⟨ROWS, hv⟩ : ∃ ROWS, v = ROWS := ⟨_, rfl⟩
  have X := Aside.mk (Sx.start h ⟨3, id, x⟩)
  have LU := up_len h.t.up
  have hsh := h.d.shape
  obtain ⟨ra, rc, rfl, hrc⟩ := hsh
  clear hv ROWS
  have HG := Aside.mk hg
  have HI := Aside.mk hi
  obtain ⟨n, hn⟩ : ∃ n, L.length = n := ⟨_, rfl⟩
  have HN := Aside.mk hn
  rw [hn] at X hrc LU ⊢
  obtain ⟨b, hb⟩ : ∃ b, w.heap.size = b := ⟨_, rfl⟩
  obtain ⟨W1, hW1⟩ : ∃ W1, (((w.alloc (.cells #[.int .i64 room, .slice ra n rc] 31)).alloc (.cells #[.int .i64 3, .int .u32 (id : Nat), .int .i64 x] 38)).alloc (.cells #[.int .i64 0, .slice none 0 0] 31)) = W1 := ⟨_, rfl⟩
  rw [hW1] at X
  obtain ⟨own1, hown1⟩ : ∃ own1, give own w.heap.size 8 = own1 := ⟨_, rfl⟩
  rw [hown1, hb] at X
  have G1 := Aside.mk (HG.it.sn X.it.n (fun e => HI.it.1 e.symm))
  obtain ⟨k0, k1, k2, k3, k4, ⟨r0, k5⟩, ⟨r1, k6⟩, k7, k8⟩ := X.it.s.cells
  clear hg h hi hn hown1
  go_enter Tryd.func7, Tryd.ntmps7
  go_upto_region 1 with fail
  clear hW1 hb
  have DD := Aside.mk (ddrop room id X.it.t.d (by rw [HN.it]; exact LU))
  obtain ⟨o, ho⟩ : ∃ o, tlook L id = o := ⟨_, rfl⟩
  rw [ho] at DD
  have eg : gotV o = .int .i64 (o.getD 0) := by cases o <;> rfl
  obtain ⟨gd, hgg⟩ : ∃ gd, o.getD 0 = gd := ⟨_, rfl⟩
  obtain ⟨sd, hss⟩ : ∃ sd, o.isSome = sd := ⟨_, rfl⟩
  rw [hgg, hss] at DD
  rw [hgg] at eg
  have e1 : (gd == gd) = true := by simp
  have e2 : (sd == sd) = true := by simp
  have HO := Aside.mk (And.intro ho (And.intro eg hss))
  clear ho eg hgg hss
  go_upto_region 11 with (first
    | (go_at_call 17; refine DD.it.mono ?_; rintro e w2 ⟨vn, rfl, D2, K2⟩; obtain ⟨va, vc, hvn, _⟩ := D2.it.shape; subst hvn)
    | fail)
  have Y3 := Aside.mk ((X.it.step K2.it 9).next D2.it)
  clear X k0 k1 k2 k3 k4 k5 k6 k7 k8 DD D2
  generalize (tdel L id).length = nl at Y3 ⊢
  generalize hW3 : (w2.alloc (.cells #[.int .i64 room, .slice va nl vc] 31)) = W3 at Y3 ⊢
  clear hW3
  generalize w2.heap.size = nb at Y3 ⊢
  obtain ⟨q0, q1, q2, q3⟩ := Sy.h5 Y3
  have DR := Aside.mk (sy_drop Y3 hid HI.it)
  rw [HO.it.1, HO.it.2.1, HO.it.2.2] at DR
  go_upto_region 12 with (go_at_call 18; refine DR.it.mono ?_; rintro e w9 ⟨rfl, P9⟩)
  obtain ⟨l0, l1, l2, l3⟩ := Sy.h5 P9
  obtain ⟨r0, r1, f0, f1, f2, f3⟩ := Sy.res P9
  have XF := Aside.mk P9.it.x
  go_wp2_with fail
  all_goals
    obtain ⟨y0, y1, E⟩ := Sx.fin XF HI.it.2
    generalize (w9.setCell ⟨b + 1 + 1, 0, none⟩ (.int .i64 room)).setCell ⟨b + 1 + 1, 1, none⟩ (.slice va nl vc) = V at y0 y1 E ⊢
    refine bodyPost_ret (v := .tuple #[.agg #[.int .i64 room, .slice va nl vc], .bool true]) (by simp [results, Tryd.f7, go_sem, y0, y1]) rfl ?_
    exact E.it


theorem step15 (own : Nat → Nat) (w : World) (hg : OnG A w0 own w) (h : Tp own i w p room L v) (kd : Int) (id : Nat) (x : Int) (hid : id ≤ 4294967295) (hi : i ≠ 0 ∧ i ≠ 8 ∧ i ≠ 9) :
    Calls Tryd.prog 7 #[ptr p, .agg #[.int .i64 room, v], .agg #[.int .i64 kd, .int .u32 (id : Nat), .int .i64 x]] w fun e w' => Ends15 own i w p room e w' := by
  by_cases h1 : kd = 1
  · subst h1; exact step15_1 own w hg h id x hid hi
  by_cases h2 : kd = 2
  · subst h2; exact step15_2 own w hg h id x hid hi
  by_cases h3 : kd = 3
  · subst h3; exact step15_3 own w hg h id x hid hi
  by_cases h4 : kd = 4
  · subst h4; exact step15_4 own w hg h id x hid hi
  by_cases h5 : kd = 5
  · subst h5; exact step15_5 own w hg h id x hid hi
  by_cases h6 : kd = 6
  · subst h6; exact step15_6 own w hg h id x hid hi
  by_cases h7 : kd = 7
  · subst h7; exact step15_7 own w hg h id x hid hi
  by_cases h8 : kd = 8
  · subst h8; exact step15_8 own w hg h id x hid hi
  by_cases h9 : kd = 9
  · subst h9; exact step15_9 own w hg h id x hid hi
  exact step15_other own w hg h id x hid hi kd (fun j a b => by simp; omega)
end Go.Proofs.YtcdgmbaimbmdmaaDoor
