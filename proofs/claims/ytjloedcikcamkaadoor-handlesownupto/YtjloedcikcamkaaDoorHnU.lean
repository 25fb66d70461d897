/-
  culvertlaw22.step: its ways (written by gen_HnU.py)
-/
import Derived.Test.YtjloedcikcamkaaDoorHnT
namespace Go.Proofs.YtjloedcikcamkaaDoor
open Go.RowKit

variable {A : Nat → Addr} {w w' W w0 : World} {own own' : Nat → Nat} {i p g g' : Nat} {L L' : Hl} {v v' vd : Value} {I : Nat → Prop} {b : Nat} {z : OpV22} {g0 : Nat} {v0 : Value} {Ld : Hl} {X : Bxs}
theorem Sh.args' {kd xc xl hh : Int} {xd : Nat} (h : Aside (Sh own i w own' W p g L b ⟨kd, ⟨xc, xl, xd⟩, hh⟩ g0 v0 vd Ld X)) : W.cell? ⟨b, 0, none⟩ = some (.int .i64 g0) ∧ W.cell? ⟨b, 1, none⟩ = some v0 ∧ W.cell? ⟨b + 1, 0, none⟩ = some (.int .i64 kd) ∧ W.cell? ⟨b + 1, 1, none⟩ = some (.int .i64 xc) ∧ W.cell? ⟨b + 1, 1 + 1, none⟩ = some (.int .i64 xl) ∧ W.cell? ⟨b + 1, 1 + 2, none⟩ = some (.int .u32 (xd : Nat)) ∧ W.cell? ⟨b + 1, 4, none⟩ = some (.int .i64 hh) := h.it.args
theorem Sh.argsS' {kd xc xl hh : Int} {xd : Nat} (h : Aside (Sh own i w own' W p g L b ⟨kd, ⟨xc, xl, xd⟩, hh⟩ g0 v0 vd Ld X)) {x y : Value} : ((W.setCell ⟨b + 1 + 1, 0, none⟩ x).setCell ⟨b + 1 + 1, 1, none⟩ y).cell? ⟨b, 0, none⟩ = some (.int .i64 g0) ∧ ((W.setCell ⟨b + 1 + 1, 0, none⟩ x).setCell ⟨b + 1 + 1, 1, none⟩ y).cell? ⟨b, 1, none⟩ = some v0 ∧ ((W.setCell ⟨b + 1 + 1, 0, none⟩ x).setCell ⟨b + 1 + 1, 1, none⟩ y).cell? ⟨b + 1, 0, none⟩ = some (.int .i64 kd) ∧ ((W.setCell ⟨b + 1 + 1, 0, none⟩ x).setCell ⟨b + 1 + 1, 1, none⟩ y).cell? ⟨b + 1, 1, none⟩ = some (.int .i64 xc) ∧ ((W.setCell ⟨b + 1 + 1, 0, none⟩ x).setCell ⟨b + 1 + 1, 1, none⟩ y).cell? ⟨b + 1, 1 + 1, none⟩ = some (.int .i64 xl) ∧ ((W.setCell ⟨b + 1 + 1, 0, none⟩ x).setCell ⟨b + 1 + 1, 1, none⟩ y).cell? ⟨b + 1, 1 + 2, none⟩ = some (.int .u32 (xd : Nat)) ∧ ((W.setCell ⟨b + 1 + 1, 0, none⟩ x).setCell ⟨b + 1 + 1, 1, none⟩ y).cell? ⟨b + 1, 4, none⟩ = some (.int .i64 hh) := h.it.argsS x y
theorem sh_bind (h : Aside (Sh own i w own' W p g L b z g0 v0 vd Ld X)) (hg : OnG A w0 own w) (hi : i ≠ 0 ∧ i ≠ 8 ∧ i ≠ 9) {x : Pl} (hx : x.Wide) : Calls Tryd.prog 14 #[ptr p, .agg #[.int .i64 x.c, .int .i64 x.l, .int .u32 (x.d : Nat)]] W fun e w' => ∃ ev, e = .returned (.tuple #[.int .i64 (bindN g L x), ev]) ∧ Hid (Coded A ev (bindC g L x)) ∧ Aside (Sents 113 codeVars A w') ∧ Aside (Sh own i w own' w' p (bindG g L x) (bindL g L x) b z g0 v0 vd Ld X) := by
  have G := hg.sn h.it.n (fun e => hi.1 e.symm)
  refine (bind_at h.it.h hx G.sents).mono ?_
  rintro e w' ⟨ev, rfl, C, Y⟩
  exact ⟨ev, rfl, C, ⟨(G.sn Y.it.2 (fun e => hi.1 e.symm)).sents⟩, ⟨h.it.move Y.it.1 Y.it.2 hi.2⟩⟩
theorem sh_code (h : Aside (Sh own i w own' W p g L b z g0 v0 vd Ld X)) (hs : Aside (Sents 113 codeVars A W)) {ev : Value} {k : Int} (hc : Coded A ev k) : Calls Tryd.prog 15 #[ev] W fun e w' => e = .returned (.int .i64 k) ∧ Aside (Sh own i w own' w' p g L b z g0 v0 vd Ld X) := by
  refine (code_of hs.it hc).mono ?_
  rintro e w' ⟨rfl, rfl⟩
  exact ⟨rfl, h⟩
theorem sh_drop (h : Aside (Sh own i w own' W p g L b z g0 v0 vd Ld X)) (hi : i ≠ 0 ∧ i ≠ 8 ∧ i ≠ 9) {k : Int} (hk : Zw k) : Calls Tryd.prog 12 #[ptr p, .int .i64 k] W fun e w' => e = .returned (.bool (hfind L k).isSome) ∧ Aside (Sh own i w own' w' p g (hdel L k) b z g0 v0 vd Ld X) := by
  refine (drop_at h.it.h hk).mono ?_
  rintro e w' ⟨rfl, Y⟩
  exact ⟨rfl, ⟨h.it.move Y.it.1 Y.it.2 hi.2⟩⟩
theorem sh_on (h : Aside (Sh own i w own' W p g L b z g0 v0 vd Ld X)) (c l : Int) : Calls Tryd.prog 18 #[ptr p, .int .i64 c, .int .i64 l] W fun e w' => ∃ u, e = .returned u ∧ Aside (RdI w' u (honL L c l)) ∧ Aside (Sh own i w own' w' p g L b z g0 v0 vd Ld X) := by
  refine (on_at h.it.h c l).mono ?_
  rintro e w' ⟨u, rfl, R, K⟩
  exact ⟨u, rfl, ⟨R.it.rdI (hon_bounds h.it.h.ok c l)⟩, ⟨h.it.quiet K.it⟩⟩
theorem sh_don {G : Int} (h : Aside (Sh own i w own' W p g L b z g0 v0 vd L X)) (c l : Int) {u : Value} {us : List Int} (hu : Aside (RdI W u us)) : Calls Tryd.prog 19 #[.agg #[.int .i64 G, vd], .int .i64 c, .int .i64 l] W fun e w' => ∃ u2, e = .returned u2 ∧ Aside (RdI w' u2 (honL L c l)) ∧ Aside (RdI w' u us) ∧ Aside (Sh own i w own' w' p g L b z g0 v0 vd L X) := by
  refine (don h.it.d (Nat.le_trans h.it.h.ok.len h.it.h.ok.m) c l).mono ?_
  rintro e w' ⟨u2, rfl, R, K⟩
  exact ⟨u2, rfl, ⟨R.it.rdI (hon_bounds h.it.h.ok c l)⟩, ⟨hu.it.quiet K.it⟩, ⟨h.it.quiet K.it⟩⟩
theorem sh_same (h : Aside (Sh own i w own' W p g L b z g0 v0 vd Ld X)) {a c : Value} {l : List Int} (ha : Aside (RdI W a l)) (hc : Aside (RdI W c l)) : Calls Tryd.prog 21 #[a, c] W fun e w' => e = .returned (.bool true) ∧ Aside (Sh own i w own' w' p g L b z g0 v0 vd Ld X) := by
  refine (same_ints22 a c l ha.it hc.it).mono ?_
  rintro e w' ⟨rfl, K⟩
  exact ⟨rfl, ⟨h.it.quiet K.it⟩⟩
theorem sh_len (h : Aside (Sh own i w own' W p g L b z g0 v0 vd Ld X)) : Calls Tryd.prog 17 #[ptr p] W fun e w' => e = .returned (.int .i64 L.length) ∧ Aside (Sh own i w own' w' p g L b z g0 v0 vd Ld X) := by
  refine (len_at h.it.h).mono ?_
  rintro e w' ⟨rfl, K⟩
  exact ⟨rfl, ⟨h.it.quiet K.it⟩⟩
theorem Sh.nb4 {nb : Nat} {t : TypeId} {u0 u1 : Value} {kd xc xl hh : Int} {xd : Nat} (h : Aside (Sh own i w own' W p g L b ⟨kd, ⟨xc, xl, xd⟩, hh⟩ g0 v0 vd Ld ((nb, t, [u0, u1]) :: X))) : (W.cell? ⟨nb, 0, none⟩ = some u0 ∧ W.cell? ⟨nb, 1, none⟩ = some u1) ∧ W.cell? ⟨b + 1, 4, none⟩ = some (.int .i64 hh) := by
  have c := (h.it.x _ (.head _)).1.1
  obtain ⟨_, _, _, _, _, _, k⟩ := h.it.args
  exact ⟨⟨by rw [c.cell]; rfl, by rw [c.cell]; rfl⟩, k⟩
theorem Sh.nb4S {nb : Nat} {t : TypeId} {u0 u1 x y : Value} {kd xc xl hh : Int} {xd : Nat} (h : Aside (Sh own i w own' W p g L b ⟨kd, ⟨xc, xl, xd⟩, hh⟩ g0 v0 vd Ld ((nb, t, [u0, u1]) :: X))) : (((W.setCell ⟨b + 1 + 1, 0, none⟩ x).setCell ⟨b + 1 + 1, 1, none⟩ y).cell? ⟨nb, 0, none⟩ = some u0 ∧ ((W.setCell ⟨b + 1 + 1, 0, none⟩ x).setCell ⟨b + 1 + 1, 1, none⟩ y).cell? ⟨nb, 1, none⟩ = some u1) ∧ ((W.setCell ⟨b + 1 + 1, 0, none⟩ x).setCell ⟨b + 1 + 1, 1, none⟩ y).cell? ⟨b + 1, 4, none⟩ = some (.int .i64 hh) := by
  obtain ⟨c, hn⟩ := h.it.x _ (.head _)
  have e := (c.1.setOther ⟨b + 1 + 1, 0, none⟩ x hn).setOther ⟨b + 1 + 1, 1, none⟩ y hn
  obtain ⟨_, _, _, _, _, _, k⟩ := h.it.argsS x y
  exact ⟨⟨by rw [e.cell]; rfl, by rw [e.cell]; rfl⟩, k⟩
/-- a box of two -/
theorem Sh.nb {nb : Nat} {t : TypeId} {u0 u1 : Value} (h : Aside (Sh own i w own' W p g L b z g0 v0 vd Ld ((nb, t, [u0, u1]) :: X))) : W.cell? ⟨nb, 0, none⟩ = some u0 ∧ W.cell? ⟨nb, 1, none⟩ = some u1 := by
  have c := (h.it.x _ (.head _)).1.1
  exact ⟨by rw [c.cell]; rfl, by rw [c.cell]; rfl⟩
theorem Sh.nbS {nb : Nat} {t : TypeId} {u0 u1 x y : Value} (h : Aside (Sh own i w own' W p g L b z g0 v0 vd Ld ((nb, t, [u0, u1]) :: X))) : ((W.setCell ⟨b + 1 + 1, 0, none⟩ x).setCell ⟨b + 1 + 1, 1, none⟩ y).cell? ⟨nb, 0, none⟩ = some u0 ∧ ((W.setCell ⟨b + 1 + 1, 0, none⟩ x).setCell ⟨b + 1 + 1, 1, none⟩ y).cell? ⟨nb, 1, none⟩ = some u1 := by
  obtain ⟨c, hn⟩ := h.it.x _ (.head _)
  have e := (c.1.setOther ⟨b + 1 + 1, 0, none⟩ x hn).setOther ⟨b + 1 + 1, 1, none⟩ y hn
  exact ⟨by rw [e.cell]; rfl, by rw [e.cell]; rfl⟩
theorem Sh.nb3 {nb : Nat} {t : TypeId} {u0 u1 u2 : Value} (h : Sh own i w own' W p g L b z g0 v0 vd Ld X) (he : (nb, t, [u0, u1, u2]) ∈ X) : W.cell? ⟨nb, 0, none⟩ = some u0 ∧ W.cell? ⟨nb, 1, none⟩ = some u1 ∧ W.cell? ⟨nb, 2, none⟩ = some u2 := by
  have c := (h.x _ he).1.1
  exact ⟨by rw [c.cell]; rfl, by rw [c.cell]; rfl, by rw [c.cell]; rfl⟩

set_option maxRecDepth 20000 in
set_option maxHeartbeats 4000000 in
theorem step22_other (own : Nat → Nat) (w : World) (hg : OnG A w0 own w) (h : Hp own i w p g L v) (x : Pl) (hh : Int) (hx : x.Wide) (hhw : Zw hh) (hi : i ≠ 0 ∧ i ≠ 8 ∧ i ≠ 9) (hgm : g < 2147483648) (kd : Int) (hk : ∀ j : Int, 1 ≤ j → j ≤ 6 → (kd == j) = false) :
    Calls Tryd.prog 10 #[ptr p, .agg #[.int .i64 g, v], .agg #[.int .i64 kd, .int .i64 x.c, .int .i64 x.l, .int .u32 (x.d : Nat), .int .i64 hh]] w fun e w' => Ends22 own i w p g e w' := by
  have X := Aside.mk (Sh.start h ⟨kd, x, hh⟩)
  have HO := Aside.mk h.t.ok
  have LU : L.length ≤ 2147483648 := Nat.le_trans h.t.ok.len (by omega)
  obtain ⟨ra, rc, rfl, hrc⟩ := h.d.shape
  obtain ⟨xc, xl, xd⟩ := x
  simp only at X ⊢
  have HG := Aside.mk hg
  have HI := Aside.mk hi
  have HX := Aside.mk hx
  have HH := Aside.mk hhw
  obtain ⟨n, hn⟩ : ∃ n, L.length = n := ⟨_, rfl⟩
  have HN := Aside.mk hn
  rw [hn] at X hrc LU ⊢
  obtain ⟨b, hb⟩ : ∃ b, w.heap.size = b := ⟨_, rfl⟩
  obtain ⟨W1, hW1⟩ : ∃ W1, (((w.alloc (.cells #[.int .i64 g, .slice ra n rc] 28)).alloc (.cells #[.int .i64 kd, .int .i64 xc, .int .i64 xl, .int .u32 (xd : Nat), .int .i64 hh] 35)).alloc (.cells #[.int .i64 0, .slice none 0 0] 28)) = W1 := ⟨_, rfl⟩
  rw [hW1] at X
  obtain ⟨own1, hown1⟩ : ∃ own1, give own w.heap.size 8 = own1 := ⟨_, rfl⟩
  rw [hown1, hb] at X
  have hgi : (g : Int) ≤ 2147483647 := by omega
  obtain ⟨k0, k1, k2, k3, k4, k5, k6⟩ := X.it.args
  obtain ⟨r0, r1, f0, f1, f2, f3⟩ := Sh.res X
  simp only at k2 k3 k4 k5 k6
  clear hg h hi hn hown1 hx hhw
  go_enter Tryd.func10, Tryd.ntmps10
  go_upto_region 1 with fail
  clear hW1 hb
  have q1 := hk 1 (by decide) (by decide)
  have q2 := hk 2 (by decide) (by decide)
  have q3 := hk 3 (by decide) (by decide)
  have q4 := hk 4 (by decide) (by decide)
  have q5 := hk 5 (by decide) (by decide)
  have q6 := hk 6 (by decide) (by decide)
  clear hk
  go_wp2_with fail
  obtain ⟨y0, y1, E⟩ := Sh.fin X HI.it.2 g (by omega)
  refine bodyPost_ret (v := .tuple #[.agg #[.int .i64 g, .slice ra n rc], .bool true]) (by simp [results, Tryd.f10, go_sem, y0, y1]) rfl ?_
  exact E.it

set_option maxRecDepth 20000 in
set_option maxHeartbeats 4000000 in
theorem step22_6 (own : Nat → Nat) (w : World) (hg : OnG A w0 own w) (h : Hp own i w p g L v) (x : Pl) (hh : Int) (hx : x.Wide) (hhw : Zw hh) (hi : i ≠ 0 ∧ i ≠ 8 ∧ i ≠ 9) (hgm : g < 2147483648) :
    Calls Tryd.prog 10 #[ptr p, .agg #[.int .i64 g, v], .agg #[.int .i64 6, .int .i64 x.c, .int .i64 x.l, .int .u32 (x.d : Nat), .int .i64 hh]] w fun e w' => Ends22 own i w p g e w' := by
  have X := Aside.mk (Sh.start h ⟨6, x, hh⟩)
  have HO := Aside.mk h.t.ok
  have LU : L.length ≤ 2147483648 := Nat.le_trans h.t.ok.len (by omega)
  obtain ⟨ra, rc, rfl, hrc⟩ := h.d.shape
  obtain ⟨xc, xl, xd⟩ := x
  simp only at X ⊢
  have HG := Aside.mk hg
  have HI := Aside.mk hi
  have HX := Aside.mk hx
  have HH := Aside.mk hhw
  obtain ⟨n, hn⟩ : ∃ n, L.length = n := ⟨_, rfl⟩
  have HN := Aside.mk hn
  rw [hn] at X hrc LU ⊢
  obtain ⟨b, hb⟩ : ∃ b, w.heap.size = b := ⟨_, rfl⟩
  obtain ⟨W1, hW1⟩ : ∃ W1, (((w.alloc (.cells #[.int .i64 g, .slice ra n rc] 28)).alloc (.cells #[.int .i64 6, .int .i64 xc, .int .i64 xl, .int .u32 (xd : Nat), .int .i64 hh] 35)).alloc (.cells #[.int .i64 0, .slice none 0 0] 28)) = W1 := ⟨_, rfl⟩
  rw [hW1] at X
  obtain ⟨own1, hown1⟩ : ∃ own1, give own w.heap.size 8 = own1 := ⟨_, rfl⟩
  rw [hown1, hb] at X
  have hgi : (g : Int) ≤ 2147483647 := by omega
  obtain ⟨k0, k1, k2, k3, k4, k5, k6⟩ := X.it.args
  obtain ⟨r0, r1, f0, f1, f2, f3⟩ := Sh.res X
  simp only at k2 k3 k4 k5 k6
  clear hg h hi hn hown1 hx hhw
  go_enter Tryd.func10, Tryd.ntmps10
  go_upto_region 1 with fail
  clear hW1 hb
  have enn : ((n : Int) == n) = true := by simp
  go_upto_region 20 with fail
  have X2 := Aside.mk (X.it.quiet (Keeps.refl _ _).drew)
  clear X k0 k1 k2 k3 k4 k5 k6 r0 r1 f0 f1 f2 f3
  go_region_held3 (fun w' => w'.cell? ⟨b, 0, none⟩ = some (.int .i64 g) ∧ w'.cell? ⟨b, 1, none⟩ = some (.slice ra n rc) ∧ w'.cell? ⟨b + 1, 0, none⟩ = some (.int .i64 6) ∧ w'.cell? ⟨b + 1, 1, none⟩ = some (.int .i64 xc) ∧ w'.cell? ⟨b + 1, 1 + 1, none⟩ = some (.int .i64 xl) ∧ w'.cell? ⟨b + 1, 1 + 2, none⟩ = some (.int .u32 (xd : Nat)) ∧ w'.cell? ⟨b + 1, 4, none⟩ = some (.int .i64 hh)) (first | with_reducible exact Sh.args' (by with_reducible assumption) | with_reducible exact Sh.argsS' (by with_reducible assumption)) (first
    | (go_at_call 17; with_reducible refine (sh_len (by with_reducible assumption)).mono ?_; rintro e w9 ⟨rfl, P9⟩; rw [HN.it]; obtain ⟨r0, r1, f0, f1, f2, f3⟩ := Sh.res P9)
    | fail)
  all_goals
    obtain ⟨y0, y1, E⟩ := Sh.fin P9 HI.it.2 g (by omega)
    generalize (w9.setCell ⟨b + 1 + 1, 0, none⟩ (.int .i64 g)).setCell ⟨b + 1 + 1, 1, none⟩ (.slice ra n rc) = V at y0 y1 E ⊢
    go_wp2
    refine bodyPost_ret (v := .tuple #[.agg #[.int .i64 g, .slice ra n rc], .bool true]) (by simp [results, Tryd.f10, go_sem, y0, y1]) rfl ?_
    exact E.it

set_option maxRecDepth 20000 in
set_option maxHeartbeats 4000000 in
theorem step22_5 (own : Nat → Nat) (w : World) (hg : OnG A w0 own w) (h : Hp own i w p g L v) (x : Pl) (hh : Int) (hx : x.Wide) (hhw : Zw hh) (hi : i ≠ 0 ∧ i ≠ 8 ∧ i ≠ 9) (hgm : g < 2147483648) :
    Calls Tryd.prog 10 #[ptr p, .agg #[.int .i64 g, v], .agg #[.int .i64 5, .int .i64 x.c, .int .i64 x.l, .int .u32 (x.d : Nat), .int .i64 hh]] w fun e w' => Ends22 own i w p g e w' := by
  have X := Aside.mk (Sh.start h ⟨5, x, hh⟩)
  have HO := Aside.mk h.t.ok
  have LU : L.length ≤ 2147483648 := Nat.le_trans h.t.ok.len (by omega)
  obtain ⟨ra, rc, rfl, hrc⟩ := h.d.shape
  obtain ⟨xc, xl, xd⟩ := x
  simp only at X ⊢
  have HG := Aside.mk hg
  have HI := Aside.mk hi
  have HX := Aside.mk hx
  have HH := Aside.mk hhw
  obtain ⟨n, hn⟩ : ∃ n, L.length = n := ⟨_, rfl⟩
  have HN := Aside.mk hn
  rw [hn] at X hrc LU ⊢
  obtain ⟨b, hb⟩ : ∃ b, w.heap.size = b := ⟨_, rfl⟩
  obtain ⟨W1, hW1⟩ : ∃ W1, (((w.alloc (.cells #[.int .i64 g, .slice ra n rc] 28)).alloc (.cells #[.int .i64 5, .int .i64 xc, .int .i64 xl, .int .u32 (xd : Nat), .int .i64 hh] 35)).alloc (.cells #[.int .i64 0, .slice none 0 0] 28)) = W1 := ⟨_, rfl⟩
  rw [hW1] at X
  obtain ⟨own1, hown1⟩ : ∃ own1, give own w.heap.size 8 = own1 := ⟨_, rfl⟩
  rw [hown1, hb] at X
  have hgi : (g : Int) ≤ 2147483647 := by omega
  obtain ⟨k0, k1, k2, k3, k4, k5, k6⟩ := X.it.args
  obtain ⟨r0, r1, f0, f1, f2, f3⟩ := Sh.res X
  simp only at k2 k3 k4 k5 k6
  clear hg h hi hn hown1 hx hhw
  go_enter Tryd.func10, Tryd.ntmps10
  go_upto_region 1 with fail
  clear hW1 hb
  go_upto_region 18 with fail
  have X2 := Aside.mk (X.it.quiet (Keeps.refl _ _).drew)
  clear X k0 k1 k2 k3 k4 k5 k6 r0 r1 f0 f1 f2 f3
  go_region_held3 (fun w' => w'.cell? ⟨b, 0, none⟩ = some (.int .i64 g) ∧ w'.cell? ⟨b, 1, none⟩ = some (.slice ra n rc) ∧ w'.cell? ⟨b + 1, 0, none⟩ = some (.int .i64 5) ∧ w'.cell? ⟨b + 1, 1, none⟩ = some (.int .i64 xc) ∧ w'.cell? ⟨b + 1, 1 + 1, none⟩ = some (.int .i64 xl) ∧ w'.cell? ⟨b + 1, 1 + 2, none⟩ = some (.int .u32 (xd : Nat)) ∧ w'.cell? ⟨b + 1, 4, none⟩ = some (.int .i64 hh)) (first | with_reducible exact Sh.args' (by with_reducible assumption) | with_reducible exact Sh.argsS' (by with_reducible assumption)) (first
    | (go_at_call 21; with_reducible refine (sh_same (by with_reducible assumption) R7 R8).mono ?_; rintro e w9 ⟨rfl, P9⟩; obtain ⟨r0, r1, f0, f1, f2, f3⟩ := Sh.res P9)
    | (go_at_call 19; with_reducible refine (sh_don (by with_reducible assumption) xc xl R6).mono ?_; rintro e w8 ⟨u8, rfl, R8, R7, P8⟩)
    | (go_at_call 18; with_reducible refine (sh_on (by with_reducible assumption) xc xl).mono ?_; rintro e w7 ⟨u7, rfl, R6, P7⟩)
    | fail)
  all_goals
    obtain ⟨y0, y1, E⟩ := Sh.fin P9 HI.it.2 g (by omega)
    generalize (w9.setCell ⟨b + 1 + 1, 0, none⟩ (.int .i64 g)).setCell ⟨b + 1 + 1, 1, none⟩ (.slice ra n rc) = V at y0 y1 E ⊢
    go_wp2
    refine bodyPost_ret (v := .tuple #[.agg #[.int .i64 g, .slice ra n rc], .bool true]) (by simp [results, Tryd.f10, go_sem, y0, y1]) rfl ?_
    exact E.it

set_option maxRecDepth 20000 in
set_option maxHeartbeats 4000000 in
theorem step22_4 (own : Nat → Nat) (w : World) (hg : OnG A w0 own w) (h : Hp own i w p g L v) (x : Pl) (hh : Int) (hx : x.Wide) (hhw : Zw hh) (hi : i ≠ 0 ∧ i ≠ 8 ∧ i ≠ 9) (hgm : g < 2147483648) :
    Calls Tryd.prog 10 #[ptr p, .agg #[.int .i64 g, v], .agg #[.int .i64 4, .int .i64 x.c, .int .i64 x.l, .int .u32 (x.d : Nat), .int .i64 hh]] w fun e w' => Ends22 own i w p g e w' := by
  have X := Aside.mk (Sh.start h ⟨4, x, hh⟩)
  have HO := Aside.mk h.t.ok
  have LU : L.length ≤ 2147483648 := Nat.le_trans h.t.ok.len (by omega)
  obtain ⟨ra, rc, rfl, hrc⟩ := h.d.shape
  obtain ⟨xc, xl, xd⟩ := x
  simp only at X ⊢
  have HG := Aside.mk hg
  have HI := Aside.mk hi
  have HX := Aside.mk hx
  have HH := Aside.mk hhw
  obtain ⟨n, hn⟩ : ∃ n, L.length = n := ⟨_, rfl⟩
  have HN := Aside.mk hn
  rw [hn] at X hrc LU ⊢
  obtain ⟨b, hb⟩ : ∃ b, w.heap.size = b := ⟨_, rfl⟩
  obtain ⟨W1, hW1⟩ : ∃ W1, (((w.alloc (.cells #[.int .i64 g, .slice ra n rc] 28)).alloc (.cells #[.int .i64 4, .int .i64 xc, .int .i64 xl, .int .u32 (xd : Nat), .int .i64 hh] 35)).alloc (.cells #[.int .i64 0, .slice none 0 0] 28)) = W1 := ⟨_, rfl⟩
  rw [hW1] at X
  obtain ⟨own1, hown1⟩ : ∃ own1, give own w.heap.size 8 = own1 := ⟨_, rfl⟩
  rw [hown1, hb] at X
  have hgi : (g : Int) ≤ 2147483647 := by omega
  obtain ⟨k0, k1, k2, k3, k4, k5, k6⟩ := X.it.args
  obtain ⟨r0, r1, f0, f1, f2, f3⟩ := Sh.res X
  simp only at k2 k3 k4 k5 k6
  clear hg h hi hn hown1 hx hhw
  go_enter Tryd.func10, Tryd.ntmps10
  go_upto_region 1 with fail
  clear hW1 hb
  have OF := Aside.mk (of_at (x := ⟨xc, xl, xd⟩) X.it.h HX.it)
  obtain ⟨og, hog⟩ : ∃ og, (hof L ⟨xc, xl, xd⟩).getD 0 = og := ⟨_, rfl⟩
  obtain ⟨os, hos⟩ : ∃ os, (hof L ⟨xc, xl, xd⟩).isSome = os := ⟨_, rfl⟩
  have e1 : (og == og) = true := by simp
  have e2 : (os == os) = true := by simp
  rw [hog, hos] at OF
  go_upto_region 15 with (go_at_call 13; refine OF.it.mono ?_; rintro e w2 ⟨rfl, K2⟩)
  have X2 := Aside.mk (X.it.quiet K2.it)
  clear X k0 k1 k2 k3 k4 k5 k6 r0 r1 f0 f1 f2 f3 OF
  have DO := Aside.mk (dof (G := g) (x := ⟨xc, xl, xd⟩) X2.it.d (by rw [HN.it]; exact LU))
  rw [hog, hos] at DO
  clear hog hos
  obtain ⟨k0, k1, k2, k3, k4, k5, k6⟩ := X2.it.args
  simp only at k2 k3 k4 k5 k6
  go_upto_region 16 with (go_at_call 25; refine DO.it.mono ?_; rintro e w3 ⟨rfl, K3⟩)
  have X3 := Aside.mk (X2.it.quiet K3.it)
  clear k0 k1 k2 k3 k4 k5 k6 DO
  obtain ⟨k0, k1, k2, k3, k4, k5, k6⟩ := X3.it.args
  obtain ⟨r0, r1, f0, f1, f2, f3⟩ := Sh.res X3
  clear k2 k3 k4 k5 k6 X2
  go_wp2_with fail
  obtain ⟨y0, y1, E⟩ := Sh.fin X3 HI.it.2 g (by omega)
  refine bodyPost_ret (v := .tuple #[.agg #[.int .i64 g, .slice ra n rc], .bool true]) (by simp [results, Tryd.f10, go_sem, y0, y1]) rfl ?_
  exact E.it

set_option maxRecDepth 20000 in
set_option maxHeartbeats 4000000 in
theorem step22_3 (own : Nat → Nat) (w : World) (hg : OnG A w0 own w) (h : Hp own i w p g L v) (x : Pl) (hh : Int) (hx : x.Wide) (hhw : Zw hh) (hi : i ≠ 0 ∧ i ≠ 8 ∧ i ≠ 9) (hgm : g < 2147483648) :
    Calls Tryd.prog 10 #[ptr p, .agg #[.int .i64 g, v], .agg #[.int .i64 3, .int .i64 x.c, .int .i64 x.l, .int .u32 (x.d : Nat), .int .i64 hh]] w fun e w' => Ends22 own i w p g e w' := by
  have X := Aside.mk (Sh.start h ⟨3, x, hh⟩)
  have HO := Aside.mk h.t.ok
  have LU : L.length ≤ 2147483648 := Nat.le_trans h.t.ok.len (by omega)
  obtain ⟨ra, rc, rfl, hrc⟩ := h.d.shape
  obtain ⟨xc, xl, xd⟩ := x
  simp only at X ⊢
  have HG := Aside.mk hg
  have HI := Aside.mk hi
  have HX := Aside.mk hx
  have HH := Aside.mk hhw
  obtain ⟨n, hn⟩ : ∃ n, L.length = n := ⟨_, rfl⟩
  have HN := Aside.mk hn
  rw [hn] at X hrc LU ⊢
  obtain ⟨b, hb⟩ : ∃ b, w.heap.size = b := ⟨_, rfl⟩
  obtain ⟨W1, hW1⟩ : ∃ W1, (((w.alloc (.cells #[.int .i64 g, .slice ra n rc] 28)).alloc (.cells #[.int .i64 3, .int .i64 xc, .int .i64 xl, .int .u32 (xd : Nat), .int .i64 hh] 35)).alloc (.cells #[.int .i64 0, .slice none 0 0] 28)) = W1 := ⟨_, rfl⟩
  rw [hW1] at X
  obtain ⟨own1, hown1⟩ : ∃ own1, give own w.heap.size 8 = own1 := ⟨_, rfl⟩
  rw [hown1, hb] at X
  have hgi : (g : Int) ≤ 2147483647 := by omega
  obtain ⟨k0, k1, k2, k3, k4, k5, k6⟩ := X.it.args
  obtain ⟨r0, r1, f0, f1, f2, f3⟩ := Sh.res X
  simp only at k2 k3 k4 k5 k6
  clear hg h hi hn hown1 hx hhw
  go_enter Tryd.func10, Tryd.ntmps10
  go_upto_region 1 with fail
  clear hW1 hb
  have FN := Aside.mk (find_at (z := hh) X.it.h HH.it)
  obtain ⟨fc, fl, fd, hgp⟩ : ∃ fc fl fd, gotP (hfind L hh) = ⟨fc, fl, fd⟩ := ⟨_, _, _, rfl⟩
  obtain ⟨fs, hfs⟩ : ∃ fs, (hfind L hh).isSome = fs := ⟨_, rfl⟩
  have e2 : (fs == fs) = true := by simp
  rw [hgp, hfs] at FN
  have FN' : Aside (Calls Tryd.prog 16 #[ptr p, .int .i64 hh] W1 fun e w' => e = .returned (.tuple #[.agg #[.int .i64 fc, .int .i64 fl, .int .u32 (fd : Nat)], .bool fs]) ∧ Aside (Keeps Nowhere W1 w')) := FN
  clear FN
  go_upto_region 11 with (go_at_call 16; refine FN'.it.mono ?_; rintro e w2 ⟨rfl, K2⟩)
  have X2 := Aside.mk ((X.it.quiet K2.it).box 33 [.int .i64 fc, .int .i64 fl, .int .u32 (fd : Nat)])
  have e5 : w2.alloc (.cells [.int .i64 fc, .int .i64 fl, .int .u32 (fd : Nat)].toArray 33) = w2.alloc (.cells #[.int .i64 fc, .int .i64 fl, .int .u32 (fd : Nat)] 33) := rfl
  rw [e5] at X2
  generalize w2.alloc (.cells #[.int .i64 fc, .int .i64 fl, .int .u32 (fd : Nat)] 33) = W3 at X2 ⊢
  generalize give own1 w2.heap.size 8 = own3 at X2
  generalize w2.heap.size = b3 at X2 ⊢
  clear X k0 k1 k2 k3 k4 k5 k6 r0 r1 f0 f1 f2 f3 FN' e5
  have DF := Aside.mk (dfind (G := g) X2.it.d (by rw [HN.it]; exact LU) hh)
  rw [hgp, hfs] at DF
  have DF' : Aside (Calls Tryd.prog 24 #[.agg #[.int .i64 g, .slice ra n rc], .int .i64 hh] W3 fun e w' => e = .returned (.tuple #[.agg #[.int .i64 fc, .int .i64 fl, .int .u32 (fd : Nat)], .bool fs]) ∧ Aside (Keeps Nowhere W3 w')) := DF
  clear hgp hfs DF
  obtain ⟨k0, k1, k2, k3, k4, k5, k6⟩ := X2.it.args
  simp only at k2 k3 k4 k5 k6
  go_upto_region 12 with (go_at_call 24; refine DF'.it.mono ?_; rintro e w4 ⟨rfl, K4⟩)
  have X4 := Aside.mk (((X2.it.quiet K4.it).box 33 [.int .i64 fc, .int .i64 fl, .int .u32 (fd : Nat)]))
  have e5 : w4.alloc (.cells [.int .i64 fc, .int .i64 fl, .int .u32 (fd : Nat)].toArray 33) = w4.alloc (.cells #[.int .i64 fc, .int .i64 fl, .int .u32 (fd : Nat)] 33) := rfl
  rw [e5] at X4
  generalize w4.alloc (.cells #[.int .i64 fc, .int .i64 fl, .int .u32 (fd : Nat)] 33) = W5 at X4 ⊢
  generalize give own3 w4.heap.size 8 = own5 at X4
  generalize w4.heap.size = b5 at X4 ⊢
  clear k0 k1 k2 k3 k4 k5 k6 DF' e5 X2
  have pe : ∀ W : World, (binOp .eql 33 (.agg #[.int .i64 fc, .int .i64 fl, .int .u32 (fd : Nat)]) (.agg #[.int .i64 fc, .int .i64 fl, .int .u32 (fd : Nat)])).run Tryd.prog W = .ok (.bool true) W := fun W => pl_eql fc fl fd W
  obtain ⟨k0, k1, k2, k3, k4, k5, k6⟩ := X4.it.args
  obtain ⟨r0, r1, f0, f1, f2, f3⟩ := Sh.res X4
  obtain ⟨x0, x1, x2⟩ := X4.it.nb3 (.tail _ (.head _))
  obtain ⟨y0, y1, y2⟩ := X4.it.nb3 (.head _)
  clear k2 k3 k4 k5 k6
  go_region
  go_wp2_with fail
  clear x0 x1 x2 y0 y1 y2
  have V0 : ((W5.setCell ⟨b + 1 + 1, 0, none⟩ (.int .i64 g)).setCell ⟨b + 1 + 1, 1, none⟩ (.slice ra n rc)).drew = ((W5.drew.setCell ⟨b + 1 + 1, 0, none⟩ (.int .i64 g)).setCell ⟨b + 1 + 1, 1, none⟩ (.slice ra n rc)) := rfl
  rw [V0]
  have X5 := Aside.mk (X4.it.quiet (Keeps.refl _ _).drew)
  obtain ⟨y0, y1, E⟩ := Sh.fin X5 HI.it.2 g (by omega)
  generalize (W5.drew.setCell ⟨b + 1 + 1, 0, none⟩ (.int .i64 g)).setCell ⟨b + 1 + 1, 1, none⟩ (.slice ra n rc) = V at y0 y1 E ⊢
  refine bodyPost_ret (v := .tuple #[.agg #[.int .i64 g, .slice ra n rc], .bool true]) (by simp [results, Tryd.f10, go_sem, y0, y1]) rfl ?_
  exact E.it

set_option maxRecDepth 20000 in
set_option maxHeartbeats 4000000 in
theorem step22_1 (own : Nat → Nat) (w : World) (hg : OnG A w0 own w) (h : Hp own i w p g L v) (x : Pl) (hh : Int) (hx : x.Wide) (hhw : Zw hh) (hi : i ≠ 0 ∧ i ≠ 8 ∧ i ≠ 9) (hgm : g < 2147483648) :
    Calls Tryd.prog 10 #[ptr p, .agg #[.int .i64 g, v], .agg #[.int .i64 1, .int .i64 x.c, .int .i64 x.l, .int .u32 (x.d : Nat), .int .i64 hh]] w fun e w' => Ends22 own i w p g e w' := by
  have X := Aside.mk (Sh.start h ⟨1, x, hh⟩)
  have HO := Aside.mk h.t.ok
  have LU : L.length ≤ 2147483648 := Nat.le_trans h.t.ok.len (by omega)
  obtain ⟨ra, rc, rfl, hrc⟩ := h.d.shape
  obtain ⟨xc, xl, xd⟩ := x
  simp only at X ⊢
  have HG := Aside.mk hg
  have HI := Aside.mk hi
  have HX := Aside.mk hx
  have HH := Aside.mk hhw
  obtain ⟨n, hn⟩ : ∃ n, L.length = n := ⟨_, rfl⟩
  have HN := Aside.mk hn
  rw [hn] at X hrc LU ⊢
  obtain ⟨b, hb⟩ : ∃ b, w.heap.size = b := ⟨_, rfl⟩
  obtain ⟨W1, hW1⟩ : ∃ W1, (((w.alloc (.cells #[.int .i64 g, .slice ra n rc] 28)).alloc (.cells #[.int .i64 1, .int .i64 xc, .int .i64 xl, .int .u32 (xd : Nat), .int .i64 hh] 35)).alloc (.cells #[.int .i64 0, .slice none 0 0] 28)) = W1 := ⟨_, rfl⟩
  rw [hW1] at X
  obtain ⟨own1, hown1⟩ : ∃ own1, give own w.heap.size 8 = own1 := ⟨_, rfl⟩
  rw [hown1, hb] at X
  have hgi : (g : Int) ≤ 2147483647 := by omega
  obtain ⟨k0, k1, k2, k3, k4, k5, k6⟩ := X.it.args
  obtain ⟨r0, r1, f0, f1, f2, f3⟩ := Sh.res X
  simp only at k2 k3 k4 k5 k6
  clear hg h hi hn hown1 hx hhw
  go_enter Tryd.func10, Tryd.ntmps10
  go_upto_region 1 with fail
  clear hW1 hb
  have DB := Aside.mk (dbind (x := ⟨xc, xl, xd⟩) X.it.d HO.it (by omega))
  have hb1 : bindG g L ⟨xc, xl, xd⟩ ≤ g + 1 := by unfold bindG; split; omega; split <;> omega
  obtain ⟨bg, hbg⟩ : ∃ bg, bindG g L ⟨xc, xl, xd⟩ = bg := ⟨_, rfl⟩
  obtain ⟨bn, hbn⟩ : ∃ bn, bindN g L ⟨xc, xl, xd⟩ = bn := ⟨_, rfl⟩
  obtain ⟨bc, hbc⟩ : ∃ bc, bindC g L ⟨xc, xl, xd⟩ = bc := ⟨_, rfl⟩
  have e1 : (bn == bn) = true := by simp
  have e2 : (bc == bc) = true := by simp
  rw [hbg, hbn, hbc] at DB
  rw [hbg] at hb1
  go_upto_region 4 with (go_at_call 22; refine DB.it.mono ?_; rintro e w2 ⟨qa, ql, qc, rfl, D2, K2⟩)
  have X2 := Aside.mk (((X.it.step K2.it 9).rows D2.it).box 28 [.int .i64 (bg : Nat), .slice qa ql qc])
  have e5 : w2.alloc (.cells [.int .i64 (bg : Nat), .slice qa ql qc].toArray 28) = w2.alloc (.cells #[.int .i64 (bg : Nat), .slice qa ql qc] 28) := rfl
  rw [e5] at X2
  generalize w2.alloc (.cells #[.int .i64 (bg : Nat), .slice qa ql qc] 28) = W3 at X2 ⊢
  generalize give (give own1 W1.heap.size 9) w2.heap.size 8 = own3 at X2
  generalize w2.heap.size = b3 at X2 ⊢
  clear X k0 k1 k2 k3 k4 k5 k6 r0 r1 f0 f1 f2 f3 DB e5 D2
  have BD := Aside.mk (sh_bind (x := ⟨xc, xl, xd⟩) X2 HG.it HI.it HX.it)
  rw [hbg, hbn, hbc] at BD
  clear hbg hbn hbc
  obtain ⟨k0, k1, k2, k3, k4, k5, k6⟩ := X2.it.args
  simp only at k2 k3 k4 k5 k6
  go_upto_region 5 with (go_at_call 14; refine BD.it.mono ?_; rintro e w4 ⟨ev, rfl, C4, S4, X4⟩)
  have X5 := Aside.mk (X4.it.quiet (Keeps.refl _ _).drew)
  have S5 := Aside.mk (S4.it.later (((Keeps.refl Nowhere w4).drew).bel))
  have CD := Aside.mk (sh_code X5 S5 C4.out)
  clear k0 k1 k2 k3 k4 k5 k6 BD X2 X4 S4
  go_region_held3 (fun w' => w'.cell? ⟨b3, 0, none⟩ = some (.int .i64 (bg : Nat)) ∧ w'.cell? ⟨b3, 1, none⟩ = some (.slice qa ql qc)) (first | with_reducible exact Sh.nb (by with_reducible assumption) | with_reducible exact Sh.nbS (by with_reducible assumption)) (first
    | (go_at_call 15; with_reducible refine CD.it.mono ?_; rintro e w9 ⟨rfl, P9⟩; obtain ⟨r0, r1, f0, f1, f2, f3⟩ := Sh.res P9)
    | fail)
  all_goals
    obtain ⟨y0, y1, E⟩ := Sh.fin P9 HI.it.2 g hb1
    generalize (w9.setCell ⟨b + 1 + 1, 0, none⟩ (.int .i64 bg)).setCell ⟨b + 1 + 1, 1, none⟩ (.slice qa ql qc) = V at y0 y1 E ⊢
    go_wp2
    refine bodyPost_ret (v := .tuple #[.agg #[.int .i64 bg, .slice qa ql qc], .bool true]) (by simp [results, Tryd.f10, go_sem, y0, y1]) rfl ?_
    exact E.it

set_option maxRecDepth 20000 in
set_option maxHeartbeats 4000000 in
theorem step22_2 (own : Nat → Nat) (w : World) (hg : OnG A w0 own w) (h : Hp own i w p g L v) (x : Pl) (hh : Int) (hx : x.Wide) (hhw : Zw hh) (hi : i ≠ 0 ∧ i ≠ 8 ∧ i ≠ 9) (hgm : g < 2147483648) :
    Calls Tryd.prog 10 #[ptr p, .agg #[.int .i64 g, v], .agg #[.int .i64 2, .int .i64 x.c, .int .i64 x.l, .int .u32 (x.d : Nat), .int .i64 hh]] w fun e w' => Ends22 own i w p g e w' := by
  have X := Aside.mk (Sh.start h ⟨2, x, hh⟩)
  have HO := Aside.mk h.t.ok
  have LU : L.length ≤ 2147483648 := Nat.le_trans h.t.ok.len (by omega)
  obtain ⟨ra, rc, rfl, hrc⟩ := h.d.shape
  obtain ⟨xc, xl, xd⟩ := x
  simp only at X ⊢
  have HG := Aside.mk hg
  have HI := Aside.mk hi
  have HX := Aside.mk hx
  have HH := Aside.mk hhw
  obtain ⟨n, hn⟩ : ∃ n, L.length = n := ⟨_, rfl⟩
  have HN := Aside.mk hn
  rw [hn] at X hrc LU ⊢
  obtain ⟨b, hb⟩ : ∃ b, w.heap.size = b := ⟨_, rfl⟩
  obtain ⟨W1, hW1⟩ : ∃ W1, (((w.alloc (.cells #[.int .i64 g, .slice ra n rc] 28)).alloc (.cells #[.int .i64 2, .int .i64 xc, .int .i64 xl, .int .u32 (xd : Nat), .int .i64 hh] 35)).alloc (.cells #[.int .i64 0, .slice none 0 0] 28)) = W1 := ⟨_, rfl⟩
  rw [hW1] at X
  obtain ⟨own1, hown1⟩ : ∃ own1, give own w.heap.size 8 = own1 := ⟨_, rfl⟩
  rw [hown1, hb] at X
  have hgi : (g : Int) ≤ 2147483647 := by omega
  obtain ⟨k0, k1, k2, k3, k4, k5, k6⟩ := X.it.args
  obtain ⟨r0, r1, f0, f1, f2, f3⟩ := Sh.res X
  simp only at k2 k3 k4 k5 k6
  clear hg h hi hn hown1 hx hhw
  go_enter Tryd.func10, Tryd.ntmps10
  go_upto_region 1 with fail
  clear hW1 hb
  have DB := Aside.mk (ddrop (G := g) X.it.d (by rw [HN.it]; exact LU) hh)
  obtain ⟨fs, hfs⟩ : ∃ fs, (hfind L hh).isSome = fs := ⟨_, rfl⟩
  have e2 : (fs == fs) = true := by simp
  rw [hfs] at DB
  go_upto_region 8 with (go_at_call 23; refine DB.it.mono ?_; rintro e w2 ⟨qa, ql, qc, rfl, D2, K2⟩)
  have X2 := Aside.mk ((((X.it.step K2.it 9).rows D2.it).box 28 [.int .i64 g, .slice qa ql qc]).quiet (Keeps.refl _ _).drew)
  have e5 : w2.alloc (.cells [.int .i64 g, .slice qa ql qc].toArray 28) = w2.alloc (.cells #[.int .i64 g, .slice qa ql qc] 28) := rfl
  rw [e5] at X2
  generalize w2.alloc (.cells #[.int .i64 g, .slice qa ql qc] 28) = W3 at X2 ⊢
  generalize give (give own1 W1.heap.size 9) w2.heap.size 8 = own3 at X2
  generalize w2.heap.size = b3 at X2 ⊢
  clear X k0 k1 k2 k3 k4 k5 k6 r0 r1 f0 f1 f2 f3 DB e5 D2
  have HF := Aside.mk hfs
  clear hfs
  go_region_held3 (fun w' => (w'.cell? ⟨b3, 0, none⟩ = some (.int .i64 g) ∧ w'.cell? ⟨b3, 1, none⟩ = some (.slice qa ql qc)) ∧ w'.cell? ⟨b + 1, 4, none⟩ = some (.int .i64 hh)) (first | with_reducible exact Sh.nb4 (by with_reducible assumption) | with_reducible exact Sh.nb4S (by with_reducible assumption)) (first
    | (go_at_call 12; with_reducible refine (sh_drop (by with_reducible assumption) HI.it HH.it).mono ?_; rintro e w9 ⟨rfl, P9⟩; rw [HF.it]; obtain ⟨r0, r1, f0, f1, f2, f3⟩ := Sh.res P9)
    | fail)
  all_goals
    obtain ⟨y0, y1, E⟩ := Sh.fin P9 HI.it.2 g (by omega)
    generalize (w9.setCell ⟨b + 1 + 1, 0, none⟩ (.int .i64 g)).setCell ⟨b + 1 + 1, 1, none⟩ (.slice qa ql qc) = V at y0 y1 E ⊢
    go_wp2
    refine bodyPost_ret (v := .tuple #[.agg #[.int .i64 g, .slice qa ql qc], .bool true]) (by simp [results, Tryd.f10, go_sem, y0, y1]) rfl ?_
    exact E.it

theorem step22 (own : Nat → Nat) (w : World) (hg : OnG A w0 own w) (h : Hp own i w p g L v) (kd : Int) (x : Pl) (hh : Int) (hx : x.Wide) (hhw : Zw hh) (hi : i ≠ 0 ∧ i ≠ 8 ∧ i ≠ 9) (hgm : g < 2147483648) :
    Calls Tryd.prog 10 #[ptr p, .agg #[.int .i64 g, v], .agg #[.int .i64 kd, .int .i64 x.c, .int .i64 x.l, .int .u32 (x.d : Nat), .int .i64 hh]] w fun e w' => Ends22 own i w p g e w' := by
  by_cases h1 : kd = 1
  · subst h1; exact step22_1 own w hg h x hh hx hhw hi hgm
  by_cases h2 : kd = 2
  · subst h2; exact step22_2 own w hg h x hh hx hhw hi hgm
  by_cases h3 : kd = 3
  · subst h3; exact step22_3 own w hg h x hh hx hhw hi hgm
  by_cases h4 : kd = 4
  · subst h4; exact step22_4 own w hg h x hh hx hhw hi hgm
  by_cases h5 : kd = 5
  · subst h5; exact step22_5 own w hg h x hh hx hhw hi hgm
  by_cases h6 : kd = 6
  · subst h6; exact step22_6 own w hg h x hh hx hhw hi hgm
  exact step22_other own w hg h x hh hx hhw hi hgm kd (fun j a b => by simp; omega)
end Go.Proofs.YtjloedcikcamkaaDoor
