/-
  culvertlaw17.step: its ways (written by gen_PgY.py)
-/
import Derived.Test.YtnmpnajmhfonhaaDoorPgX
namespace Go.Proofs.YtnmpnajmhfonhaaDoor
open Go.RowKit

variable {A : Nat → Addr} {w w' W w0 : World} {own own' : Nat → Nat} {i r nb b : Nat} {x : Value} {m mp md mn : Pm} {v2 v3 v4 u2 u3 u4 : Value} {I : Nat → Prop} {kd : Int} {id : Nat}

theorem sn_i (s : Sn (fun k => k = i) own w own' w') : Sn (fun k => k = i ∨ k = r) own w own' w' := s.mono (fun _ e => .inl e)
theorem sy_heard (h : Aside (Sy own i r w own' W x mp b kd id v2 v3 v4 md nb u2 u3 u4 mn)) (hg : Aside (OnG A w0 own' W)) (hi : (i ≠ 0 ∧ r ≠ 0) ∧ i ≠ 8 ∧ i ≠ 9 ∧ r ≠ 8 ∧ r ≠ 9) (ht : id ≤ 4294967295) (hb : (mp.an.length + 1) * 4 ≤ 140737488355328) : Calls Tryd.prog 18 #[x, .int .u32 (id : Nat)] W fun e w' => ∃ ev own2, e = .returned ev ∧ Hid (Coded A ev (mp.heardC id)) ∧ Aside (Sy own i r w own2 w' x (mp.heard id) b kd id v2 v3 v4 md nb u2 u3 u4 mn) ∧ Aside (OnG A w0 own2 w') := by
  refine (pheard h.it.x.t id ht hb hg.it.sents).mono ?_
  rintro e w' ⟨ev, rfl, C, X⟩
  obtain ⟨own2, t2, s2⟩ := X.it
  exact ⟨ev, own2, rfl, C, ⟨h.it.prog hi.2 t2 s2⟩, ⟨hg.it.sn s2 (by rintro (e | e); exact hi.1.1 e.symm; exact hi.1.2 e.symm)⟩⟩
theorem sy_asked (h : Aside (Sy own i r w own' W x mp b kd id v2 v3 v4 md nb u2 u3 u4 mn)) (hg : Aside (OnG A w0 own' W)) (hi : (i ≠ 0 ∧ r ≠ 0) ∧ i ≠ 8 ∧ i ≠ 9 ∧ r ≠ 8 ∧ r ≠ 9) : Calls Tryd.prog 20 #[x, .int .u32 (id : Nat)] W fun e w' => ∃ ev own2, e = .returned ev ∧ Hid (Coded A ev mp.askedC) ∧ Aside (Sy own i r w own2 w' x (mp.asked id) b kd id v2 v3 v4 md nb u2 u3 u4 mn) ∧ Aside (OnG A w0 own2 w') := by
  refine (pasked h.it.x.t id hg.it.sents).mono ?_
  rintro e w' ⟨ev, rfl, C, X⟩
  obtain ⟨own2, t2, s2⟩ := X.it
  exact ⟨ev, own2, rfl, C, ⟨h.it.prog hi.2 t2 (sn_i s2)⟩, ⟨hg.it.sn s2 (fun e => hi.1.1 e.symm)⟩⟩
theorem sy_code {ev : Value} {c : Int} (h : Aside (Sy own i r w own' W x mp b kd id v2 v3 v4 md nb u2 u3 u4 mn)) (hg : Aside (OnG A w0 own' W)) (hv : Hid (Coded A ev c)) : Calls Tryd.prog 9 #[ev] W fun e w' => e = .returned (.int .i64 c) ∧ Aside (Sy own i r w own' w' x mp b kd id v2 v3 v4 md nb u2 u3 u4 mn) := by
  refine (code_of hg.it.sents hv.out).mono ?_
  rintro e w' ⟨rfl, rfl⟩
  exact ⟨rfl, h⟩
theorem sx_ans (h : Aside (Sx own i r w own' W x mp b kd id v2 v3 v4 md)) (hi : (i ≠ 0 ∧ r ≠ 0) ∧ i ≠ 8 ∧ i ≠ 9 ∧ r ≠ 8 ∧ r ≠ 9) : Calls Tryd.prog 16 #[x] W fun e w' => ∃ (a : Option Addr) (l c : Nat), e = .returned (.slice a l c) ∧ Aside (ReadsK 1 w' (.slice a l c) mp.an.length (mp.an.map e32)) ∧ Aside (Sx own i r w own' w' x mp.told b kd id v2 v3 v4 md) := by
  refine (panswered h.it.t).mono ?_
  rintro e w' ⟨a, c, rfl, R, _, X⟩
  exact ⟨a, _, c, rfl, ⟨owns_readsK R.it⟩, ⟨h.it.prog hi.2 (X.it.1 r) (sn_i X.it.2)⟩⟩
theorem sx_ans' {z : Value} {L : List Nat} (h : Aside (Sx own i r w own' W x mp b kd id v2 v3 v4 md)) (hi : (i ≠ 0 ∧ r ≠ 0) ∧ i ≠ 8 ∧ i ≠ 9 ∧ r ≠ 8 ∧ r ≠ 9) (hz : Aside (RdN own' W z L)) : Calls Tryd.prog 16 #[x] W fun e w' => ∃ (a : Option Addr) (l c : Nat), e = .returned (.slice a l c) ∧ Aside (ReadsK 1 w' (.slice a l c) mp.an.length (mp.an.map e32)) ∧ Aside (RdN own' w' z L) ∧ Aside (Sx own i r w own' w' x mp.told b kd id v2 v3 v4 md) := by
  refine (panswered h.it.t).mono ?_
  rintro e w' ⟨a, c, rfl, R, _, X⟩
  exact ⟨a, _, c, rfl, ⟨owns_readsK R.it⟩, ⟨hz.it.sn X.it.2 (fun e => hi.2.2.1 e.symm)⟩, ⟨h.it.prog hi.2 (X.it.1 r) (sn_i X.it.2)⟩⟩
theorem Sx.cells5 (h : Aside (Sx own i r w own' W x mp b kd id v2 v3 v4 md)) : W.cell? ⟨b, 0, none⟩ = some (.int .i64 md.most) ∧ W.cell? ⟨b, 1, none⟩ = some (.int .i64 md.last) ∧ W.cell? ⟨b, 2, none⟩ = some v2 ∧ W.cell? ⟨b, 3, none⟩ = some v3 ∧ W.cell? ⟨b, 4, none⟩ = some v4 := by
  obtain ⟨h0, h1, h2, h3, h4, _⟩ := Sx.cells h
  exact ⟨h0, h1, h2, h3, h4⟩
theorem Sx.cellsS (h : Aside (Sx own i r w own' W x mp b kd id v2 v3 v4 md)) {y0 y1 y2 y3 y4 : Value} : (fun W' : World => W'.cell? ⟨b, 0, none⟩ = some (.int .i64 md.most) ∧ W'.cell? ⟨b, 1, none⟩ = some (.int .i64 md.last) ∧ W'.cell? ⟨b, 2, none⟩ = some v2 ∧ W'.cell? ⟨b, 3, none⟩ = some v3 ∧ W'.cell? ⟨b, 4, none⟩ = some v4) (((((W.setCell ⟨b + 1 + 1, 0, none⟩ y0).setCell ⟨b + 1 + 1, 1, none⟩ y1).setCell ⟨b + 1 + 1, 2, none⟩ y2).setCell ⟨b + 1 + 1, 3, none⟩ y3).setCell ⟨b + 1 + 1, 4, none⟩ y4) := by
  have k5 : Keeps (fun k => k = b + 1 + 1) W (((((W.setCell ⟨b + 1 + 1, 0, none⟩ y0).setCell ⟨b + 1 + 1, 1, none⟩ y1).setCell ⟨b + 1 + 1, 2, none⟩ y2).setCell ⟨b + 1 + 1, 3, none⟩ y3).setCell ⟨b + 1 + 1, 4, none⟩ y4) := keeps5 W (b + 1 + 1) y0 y1 y2 y3 y4
  have e0 := h.it.c0.1.later k5 (by omega)
  exact ⟨e0.cell 0, e0.cell 1, e0.cell 2, e0.cell 3, e0.cell 4⟩
theorem sx_same {u z : Value} (h : Aside (Sx own i r w own' W x mp b kd id v2 v3 v4 md)) {l : List Nat} (hu : Aside (ReadsK 1 W u l.length (l.map e32))) (hz : Aside (RdN own' W z l)) : Calls Tryd.prog 15 #[u, z] W fun e w' => e = .returned (.bool true) ∧ Aside (Sx own i r w own' w' x mp b kd id v2 v3 v4 md) := by
  refine (same17 u z l hu.it hz.it.r).mono ?_
  rintro e w' ⟨rfl, K⟩
  exact ⟨rfl, ⟨h.it.quiet K.it⟩⟩

set_option maxRecDepth 20000 in
set_option maxHeartbeats 4000000 in
theorem step17_0 (own : Nat → Nat) (w : World) (hg : OnG A w0 own w) (h : Tp own i r w x m v2 v3 v4) (id : Nat) (hi : (i ≠ 0 ∧ r ≠ 0) ∧ i ≠ 8 ∧ i ≠ 9 ∧ r ≠ 8 ∧ r ≠ 9) (hb : m.last < 4294967295) :
    Calls Tryd.prog 14 #[x, .agg #[.int .i64 m.most, .int .i64 m.last, v2, v3, v4], .agg #[.int .i64 0, .int .u32 (id : Nat)]] w fun e w' => Ends17 own i r w x m.ask e w' := by
  have X := Aside.mk (Sx.start h 0 id)
  obtain ⟨ra, rc, rfl, _⟩ := h.d.wt.shape
  obtain ⟨sa, sc, rfl, _⟩ := h.d.a.shape
  obtain ⟨ta, tc, rfl, _⟩ := h.d.o.shape
  have HF := Aside.mk h.f
  have HG := Aside.mk hg
  have HI := Aside.mk hi
  obtain ⟨n1, hn1⟩ : ∃ n, (ks m.L).length = n := ⟨_, rfl⟩
  obtain ⟨n2, hn2⟩ : ∃ n, m.an.length = n := ⟨_, rfl⟩
  obtain ⟨n3, hn3⟩ : ∃ n, m.ow.length = n := ⟨_, rfl⟩
  rw [hn1, hn2, hn3] at X ⊢
  obtain ⟨b, hb⟩ : ∃ b, w.heap.size = b := ⟨_, rfl⟩
  obtain ⟨W1, hW1⟩ : ∃ W1, (((w.alloc (.cells #[.int .i64 m.most, .int .i64 m.last, .slice ra n1 rc, .slice sa n2 sc, .slice ta n3 tc] 34)).alloc (.cells #[.int .i64 0, .int .u32 (id : Nat)] 39)).alloc (.cells #[.int .i64 0, .int .i64 0, .slice none 0 0, .slice none 0 0, .slice none 0 0] 34)) = W1 := ⟨_, rfl⟩
  rw [hW1] at X
  obtain ⟨own1, hown1⟩ : ∃ own1, give own w.heap.size 8 = own1 := ⟨_, rfl⟩
  rw [hown1, hb] at X
  have G1 := Aside.mk (HG.it.sn X.it.n (by rintro (e | e); exact HI.it.1.1 e.symm; exact HI.it.1.2 e.symm))
  obtain ⟨k0, k1, k2, k3, k4, k5, k6⟩ := Sx.cells X
  clear hg h hi hn1 hn2 hn3 hown1
  go_enter Tryd.func14, Tryd.ntmps14
  go_upto_region 1 with fail
  clear hW1 hb
  have DR := Aside.mk (dask X.it.d HF.it.ok HF.it hb)
  go_upto_region 4 with (first
    | (go_at_call 28; refine DR.it.mono ?_; clear DR; rintro e w2 ⟨ea, el, ec, fa, fl, fc, ga, gl, gc, rfl, D2, K2⟩)
    | fail)
  obtain ⟨own3, Y3⟩ := X.it.next K2.it D2.it
  have G3 : Aside (OnG A w0 own3 (w2.alloc (.cells #[.int .i64 m.ask.most, .int .i64 m.ask.last, .slice ea el ec, .slice fa fl fc, .slice ga gl gc] 34))) := ⟨HG.it.sn Y3.x.n (by rintro (e | e); exact HI.it.1.1 e.symm; exact HI.it.1.2 e.symm)⟩
  have Y := Aside.mk Y3
  clear D2 Y3 X K2
  generalize hW3 : (w2.alloc (.cells #[.int .i64 m.ask.most, .int .i64 m.ask.last, .slice ea el ec, .slice fa fl fc, .slice ga gl gc] 34)) = W3 at Y G3 ⊢
  clear hW3
  generalize w2.heap.size = nb at Y ⊢
  have BP := Aside.mk (pask Y.it.x.t G3.it.sents)
  obtain ⟨tk, htk⟩ : ∃ tk, m.askT = tk := ⟨_, rfl⟩
  obtain ⟨cd, hcd⟩ : ∃ cd, m.askC = cd := ⟨_, rfl⟩
  rw [htk, hcd] at BP ⊢
  have FN := Aside.mk (HF.it.ask hb)
  clear htk hcd hb
  obtain ⟨mn, hmn⟩ : ∃ mn, m.ask = mn := ⟨_, rfl⟩
  rw [hmn] at BP Y FN ⊢
  have HMN := Aside.mk hmn
  clear hmn
  go_upto_region 5 with (first
    | (go_at_call 17; refine BP.it.mono ?_; clear BP; rintro e w4 ⟨ev4, rfl, C4, R4⟩)
    | fail)
  have Y4 := Aside.mk (Y.it.prog HI.it.2 R4.it.1 (sn_i R4.it.2))
  have G4 := Aside.mk (G3.it.sn R4.it.2 (fun e => HI.it.1.1 e.symm))
  have Yd := Aside.mk (Y4.it.quiet (Keeps.refl _ _).drew)
  have Gd := Aside.mk (G4.it.quiet (Keeps.refl _ _).drew)
  have e1 : ((tk : Int) == tk) = true := by simp
  have e2 : (cd == cd) = true := by simp
  clear k0 k1 k2 k3 k4 k5 k6
  clear Y G3 Y4 G4 R4
  go_region_held3 (fun w' => w'.cell? ⟨nb, 0, none⟩ = some (.int .i64 mn.most) ∧ w'.cell? ⟨nb, 1, none⟩ = some (.int .i64 mn.last) ∧ w'.cell? ⟨nb, 2, none⟩ = some (.slice ea el ec) ∧ w'.cell? ⟨nb, 3, none⟩ = some (.slice fa fl fc) ∧ w'.cell? ⟨nb, 4, none⟩ = some (.slice ga gl gc) ∧ w'.cell? ⟨b + 1, 1, none⟩ = some (.int .u32 (id : Nat))) (first | with_reducible exact Sy.cells (by with_reducible assumption) | with_reducible exact Sy.cellsS (by with_reducible assumption)) (first
    | (go_at_call 9; with_reducible refine (sy_code (by with_reducible assumption) Gd C4).mono ?_; rintro e w9 ⟨rfl, P9⟩; have X9 := Aside.mk P9.it.x; obtain ⟨r0, r1, r2, r3, r4, p0, p1, p2, p3, p4, f0, f1, f2, f3, f4⟩ := Sx.res X9)
    | fail)
  all_goals have D9 := Aside.mk P9.it.d
  all_goals
    obtain ⟨YC, E⟩ := Sx.fin X9 D9 FN HI.it.2
    unfold set5 at YC E
    generalize (((((w9.setCell ⟨b + 1 + 1, 0, none⟩ (.int .i64 mn.most)).setCell ⟨b + 1 + 1, 1, none⟩ (.int .i64 mn.last)).setCell ⟨b + 1 + 1, 2, none⟩ (.slice ea el ec)).setCell ⟨b + 1 + 1, 3, none⟩ (.slice fa fl fc)).setCell ⟨b + 1 + 1, 4, none⟩ (.slice ga gl gc)) = V at YC E ⊢
    have y0 := YC.cell 0
    have y1 := YC.cell 1
    have y2 := YC.cell 2
    have y3 := YC.cell 3
    have y4 := YC.cell 4
    simp only [rcel, List.getElem?_cons_zero, List.getElem?_cons_succ] at y0 y1 y2 y3 y4
    clear YC
    go_wp2
    refine bodyPost_ret (v := .tuple #[.agg #[.int .i64 mn.most, .int .i64 mn.last, .slice ea el ec, .slice fa fl fc, .slice ga gl gc], .bool true]) (by simp [results, Tryd.f14, go_sem, y0, y1, y2, y3, y4]) rfl ?_
    rw [HMN.it]
    first | exact E.it | exact E.it.drew

set_option maxRecDepth 20000 in
set_option maxHeartbeats 4000000 in
theorem step17_1 (own : Nat → Nat) (w : World) (hg : OnG A w0 own w) (h : Tp own i r w x m v2 v3 v4) (id : Nat) (hi : (i ≠ 0 ∧ r ≠ 0) ∧ i ≠ 8 ∧ i ≠ 9 ∧ r ≠ 8 ∧ r ≠ 9) (ht : id ≤ 4294967295) (hb : (m.an.length + 1) * 4 ≤ 140737488355328) :
    Calls Tryd.prog 14 #[x, .agg #[.int .i64 m.most, .int .i64 m.last, v2, v3, v4], .agg #[.int .i64 1, .int .u32 (id : Nat)]] w fun e w' => Ends17 own i r w x (m.heard id) e w' := by
  have X := Aside.mk (Sx.start h 1 id)
  obtain ⟨ra, rc, rfl, _⟩ := h.d.wt.shape
  obtain ⟨sa, sc, rfl, _⟩ := h.d.a.shape
  obtain ⟨ta, tc, rfl, _⟩ := h.d.o.shape
  have HF := Aside.mk h.f
  have HG := Aside.mk hg
  have HI := Aside.mk hi
  obtain ⟨n1, hn1⟩ : ∃ n, (ks m.L).length = n := ⟨_, rfl⟩
  obtain ⟨n2, hn2⟩ : ∃ n, m.an.length = n := ⟨_, rfl⟩
  obtain ⟨n3, hn3⟩ : ∃ n, m.ow.length = n := ⟨_, rfl⟩
  rw [hn1, hn2, hn3] at X ⊢
  obtain ⟨b, hb⟩ : ∃ b, w.heap.size = b := ⟨_, rfl⟩
  obtain ⟨W1, hW1⟩ : ∃ W1, (((w.alloc (.cells #[.int .i64 m.most, .int .i64 m.last, .slice ra n1 rc, .slice sa n2 sc, .slice ta n3 tc] 34)).alloc (.cells #[.int .i64 1, .int .u32 (id : Nat)] 39)).alloc (.cells #[.int .i64 0, .int .i64 0, .slice none 0 0, .slice none 0 0, .slice none 0 0] 34)) = W1 := ⟨_, rfl⟩
  rw [hW1] at X
  obtain ⟨own1, hown1⟩ : ∃ own1, give own w.heap.size 8 = own1 := ⟨_, rfl⟩
  rw [hown1, hb] at X
  have G1 := Aside.mk (HG.it.sn X.it.n (by rintro (e | e); exact HI.it.1.1 e.symm; exact HI.it.1.2 e.symm))
  obtain ⟨k0, k1, k2, k3, k4, k5, k6⟩ := Sx.cells X
  clear hg h hi hn1 hn2 hn3 hown1
  go_enter Tryd.func14, Tryd.ntmps14
  go_upto_region 1 with fail
  clear hW1 hb
  have DR := Aside.mk (dheard X.it.d HF.it.ok id hb)
  go_upto_region 8 with (first
    | (go_at_call 29; refine DR.it.mono ?_; clear DR; rintro e w2 ⟨ea, el, ec, fa, fl, fc, ga, gl, gc, rfl, D2, K2⟩)
    | fail)
  obtain ⟨own3, Y3⟩ := X.it.next K2.it D2.it
  have G3 : Aside (OnG A w0 own3 (w2.alloc (.cells #[.int .i64 (m.heard id).most, .int .i64 (m.heard id).last, .slice ea el ec, .slice fa fl fc, .slice ga gl gc] 34))) := ⟨HG.it.sn Y3.x.n (by rintro (e | e); exact HI.it.1.1 e.symm; exact HI.it.1.2 e.symm)⟩
  have Y := Aside.mk Y3
  clear D2 Y3 X K2
  generalize hW3 : (w2.alloc (.cells #[.int .i64 (m.heard id).most, .int .i64 (m.heard id).last, .slice ea el ec, .slice fa fl fc, .slice ga gl gc] 34)) = W3 at Y G3 ⊢
  clear hW3
  generalize w2.heap.size = nb at Y ⊢
  have FN := Aside.mk (HF.it.heard id)
  have HTB := Aside.mk (And.intro ht hb)
  have Yd := Aside.mk (Y.it.quiet (Keeps.refl _ _).drew)
  have Gd := Aside.mk (G3.it.quiet (Keeps.refl _ _).drew)
  obtain ⟨cd, hcd⟩ : ∃ cd, m.heardC id = cd := ⟨_, rfl⟩
  rw [hcd]
  have HCD := Aside.mk hcd
  have e2 : (cd == cd) = true := by simp
  clear hcd ht hb
  obtain ⟨mn, hmn⟩ : ∃ mn, m.heard id = mn := ⟨_, rfl⟩
  rw [hmn] at Yd FN ⊢
  have HMN := Aside.mk hmn
  clear hmn
  clear k0 k1 k2 k3 k4 k5 k6
  clear Y G3
  go_region_held3 (fun w' => w'.cell? ⟨nb, 0, none⟩ = some (.int .i64 mn.most) ∧ w'.cell? ⟨nb, 1, none⟩ = some (.int .i64 mn.last) ∧ w'.cell? ⟨nb, 2, none⟩ = some (.slice ea el ec) ∧ w'.cell? ⟨nb, 3, none⟩ = some (.slice fa fl fc) ∧ w'.cell? ⟨nb, 4, none⟩ = some (.slice ga gl gc) ∧ w'.cell? ⟨b + 1, 1, none⟩ = some (.int .u32 (id : Nat))) (first | with_reducible exact Sy.cells (by with_reducible assumption) | with_reducible exact Sy.cellsS (by with_reducible assumption)) (first
    | (go_at_call 9; with_reducible refine (sy_code P8 G8 C8).mono ?_; rintro e w9 ⟨rfl, P9⟩; rw [HCD.it]; have X9 := Aside.mk P9.it.x; rw [HMN.it] at X9; obtain ⟨r0, r1, r2, r3, r4, p0, p1, p2, p3, p4, f0, f1, f2, f3, f4⟩ := Sx.res X9)
    | (go_at_call 18; with_reducible refine (sy_heard (by with_reducible assumption) (by with_reducible assumption) HI.it HTB.it.1 HTB.it.2).mono ?_; rintro e w8 ⟨ev8, own8, rfl, C8, P8, G8⟩)
    | fail)
  all_goals have D9 := Aside.mk P9.it.d
  all_goals
    obtain ⟨YC, E⟩ := Sx.fin X9 D9 FN HI.it.2
    unfold set5 at YC E
    generalize (((((w9.setCell ⟨b + 1 + 1, 0, none⟩ (.int .i64 mn.most)).setCell ⟨b + 1 + 1, 1, none⟩ (.int .i64 mn.last)).setCell ⟨b + 1 + 1, 2, none⟩ (.slice ea el ec)).setCell ⟨b + 1 + 1, 3, none⟩ (.slice fa fl fc)).setCell ⟨b + 1 + 1, 4, none⟩ (.slice ga gl gc)) = V at YC E ⊢
    have y0 := YC.cell 0
    have y1 := YC.cell 1
    have y2 := YC.cell 2
    have y3 := YC.cell 3
    have y4 := YC.cell 4
    simp only [rcel, List.getElem?_cons_zero, List.getElem?_cons_succ] at y0 y1 y2 y3 y4
    clear YC
    go_wp2
    refine bodyPost_ret (v := .tuple #[.agg #[.int .i64 mn.most, .int .i64 mn.last, .slice ea el ec, .slice fa fl fc, .slice ga gl gc], .bool true]) (by simp [results, Tryd.f14, go_sem, y0, y1, y2, y3, y4]) rfl ?_
    rw [HMN.it]
    first | exact E.it | exact E.it.drew

set_option maxRecDepth 20000 in
set_option maxHeartbeats 4000000 in
theorem step17_3 (own : Nat → Nat) (w : World) (hg : OnG A w0 own w) (h : Tp own i r w x m v2 v3 v4) (id : Nat) (hi : (i ≠ 0 ∧ r ≠ 0) ∧ i ≠ 8 ∧ i ≠ 9 ∧ r ≠ 8 ∧ r ≠ 9) :
    Calls Tryd.prog 14 #[x, .agg #[.int .i64 m.most, .int .i64 m.last, v2, v3, v4], .agg #[.int .i64 3, .int .u32 (id : Nat)]] w fun e w' => Ends17 own i r w x (m.asked id) e w' := by
  have X := Aside.mk (Sx.start h 3 id)
  obtain ⟨ra, rc, rfl, _⟩ := h.d.wt.shape
  obtain ⟨sa, sc, rfl, _⟩ := h.d.a.shape
  obtain ⟨ta, tc, rfl, _⟩ := h.d.o.shape
  have HF := Aside.mk h.f
  have HG := Aside.mk hg
  have HI := Aside.mk hi
  obtain ⟨n1, hn1⟩ : ∃ n, (ks m.L).length = n := ⟨_, rfl⟩
  obtain ⟨n2, hn2⟩ : ∃ n, m.an.length = n := ⟨_, rfl⟩
  obtain ⟨n3, hn3⟩ : ∃ n, m.ow.length = n := ⟨_, rfl⟩
  rw [hn1, hn2, hn3] at X ⊢
  obtain ⟨b, hb⟩ : ∃ b, w.heap.size = b := ⟨_, rfl⟩
  obtain ⟨W1, hW1⟩ : ∃ W1, (((w.alloc (.cells #[.int .i64 m.most, .int .i64 m.last, .slice ra n1 rc, .slice sa n2 sc, .slice ta n3 tc] 34)).alloc (.cells #[.int .i64 3, .int .u32 (id : Nat)] 39)).alloc (.cells #[.int .i64 0, .int .i64 0, .slice none 0 0, .slice none 0 0, .slice none 0 0] 34)) = W1 := ⟨_, rfl⟩
  rw [hW1] at X
  obtain ⟨own1, hown1⟩ : ∃ own1, give own w.heap.size 8 = own1 := ⟨_, rfl⟩
  rw [hown1, hb] at X
  have G1 := Aside.mk (HG.it.sn X.it.n (by rintro (e | e); exact HI.it.1.1 e.symm; exact HI.it.1.2 e.symm))
  obtain ⟨k0, k1, k2, k3, k4, k5, k6⟩ := Sx.cells X
  clear hg h hi hn1 hn2 hn3 hown1
  go_enter Tryd.func14, Tryd.ntmps14
  go_upto_region 1 with fail
  clear hW1 hb
  have DR := Aside.mk (dasked X.it.d HF.it.ok id)
  go_upto_region 15 with (first
    | (go_at_call 30; refine DR.it.mono ?_; clear DR; rintro e w2 ⟨ea, el, ec, fa, fl, fc, ga, gl, gc, rfl, D2, K2⟩)
    | fail)
  obtain ⟨own3, Y3⟩ := X.it.next K2.it D2.it
  have G3 : Aside (OnG A w0 own3 (w2.alloc (.cells #[.int .i64 (m.asked id).most, .int .i64 (m.asked id).last, .slice ea el ec, .slice fa fl fc, .slice ga gl gc] 34))) := ⟨HG.it.sn Y3.x.n (by rintro (e | e); exact HI.it.1.1 e.symm; exact HI.it.1.2 e.symm)⟩
  have Y := Aside.mk Y3
  clear D2 Y3 X K2
  generalize hW3 : (w2.alloc (.cells #[.int .i64 (m.asked id).most, .int .i64 (m.asked id).last, .slice ea el ec, .slice fa fl fc, .slice ga gl gc] 34)) = W3 at Y G3 ⊢
  clear hW3
  generalize w2.heap.size = nb at Y ⊢
  have FN := Aside.mk (HF.it.asked id)
  have Yd := Aside.mk (Y.it.quiet (Keeps.refl _ _).drew)
  have Gd := Aside.mk (G3.it.quiet (Keeps.refl _ _).drew)
  obtain ⟨cd, hcd⟩ : ∃ cd, m.askedC = cd := ⟨_, rfl⟩
  rw [hcd]
  have HCD := Aside.mk hcd
  have e2 : (cd == cd) = true := by simp
  clear hcd
  obtain ⟨mn, hmn⟩ : ∃ mn, m.asked id = mn := ⟨_, rfl⟩
  rw [hmn] at Yd FN ⊢
  have HMN := Aside.mk hmn
  clear hmn
  clear k0 k1 k2 k3 k4 k5 k6
  clear Y G3
  go_region_held3 (fun w' => w'.cell? ⟨nb, 0, none⟩ = some (.int .i64 mn.most) ∧ w'.cell? ⟨nb, 1, none⟩ = some (.int .i64 mn.last) ∧ w'.cell? ⟨nb, 2, none⟩ = some (.slice ea el ec) ∧ w'.cell? ⟨nb, 3, none⟩ = some (.slice fa fl fc) ∧ w'.cell? ⟨nb, 4, none⟩ = some (.slice ga gl gc) ∧ w'.cell? ⟨b + 1, 1, none⟩ = some (.int .u32 (id : Nat))) (first | with_reducible exact Sy.cells (by with_reducible assumption) | with_reducible exact Sy.cellsS (by with_reducible assumption)) (first
    | (go_at_call 9; with_reducible refine (sy_code P8 G8 C8).mono ?_; rintro e w9 ⟨rfl, P9⟩; rw [HCD.it]; have X9 := Aside.mk P9.it.x; rw [HMN.it] at X9; obtain ⟨r0, r1, r2, r3, r4, p0, p1, p2, p3, p4, f0, f1, f2, f3, f4⟩ := Sx.res X9)
    | (go_at_call 20; with_reducible refine (sy_asked (by with_reducible assumption) (by with_reducible assumption) HI.it).mono ?_; rintro e w8 ⟨ev8, own8, rfl, C8, P8, G8⟩)
    | fail)
  all_goals have D9 := Aside.mk P9.it.d
  all_goals
    obtain ⟨YC, E⟩ := Sx.fin X9 D9 FN HI.it.2
    unfold set5 at YC E
    generalize (((((w9.setCell ⟨b + 1 + 1, 0, none⟩ (.int .i64 mn.most)).setCell ⟨b + 1 + 1, 1, none⟩ (.int .i64 mn.last)).setCell ⟨b + 1 + 1, 2, none⟩ (.slice ea el ec)).setCell ⟨b + 1 + 1, 3, none⟩ (.slice fa fl fc)).setCell ⟨b + 1 + 1, 4, none⟩ (.slice ga gl gc)) = V at YC E ⊢
    have y0 := YC.cell 0
    have y1 := YC.cell 1
    have y2 := YC.cell 2
    have y3 := YC.cell 3
    have y4 := YC.cell 4
    simp only [rcel, List.getElem?_cons_zero, List.getElem?_cons_succ] at y0 y1 y2 y3 y4
    clear YC
    go_wp2
    refine bodyPost_ret (v := .tuple #[.agg #[.int .i64 mn.most, .int .i64 mn.last, .slice ea el ec, .slice fa fl fc, .slice ga gl gc], .bool true]) (by simp [results, Tryd.f14, go_sem, y0, y1, y2, y3, y4]) rfl ?_
    rw [HMN.it]
    first | exact E.it | exact E.it.drew

set_option maxRecDepth 20000 in
set_option maxHeartbeats 4000000 in
theorem step17_2 (own : Nat → Nat) (w : World) (hg : OnG A w0 own w) (h : Tp own i r w x m v2 v3 v4) (id : Nat) (hi : (i ≠ 0 ∧ r ≠ 0) ∧ i ≠ 8 ∧ i ≠ 9 ∧ r ≠ 8 ∧ r ≠ 9) :
    Calls Tryd.prog 14 #[x, .agg #[.int .i64 m.most, .int .i64 m.last, v2, v3, v4], .agg #[.int .i64 2, .int .u32 (id : Nat)]] w fun e w' => Ends17 own i r w x m.told e w' := by
  have X := Aside.mk (Sx.start h 2 id)
  obtain ⟨ra, rc, rfl, _⟩ := h.d.wt.shape
  obtain ⟨sa, sc, rfl, _⟩ := h.d.a.shape
  obtain ⟨ta, tc, rfl, _⟩ := h.d.o.shape
  have HF := Aside.mk h.f
  have HG := Aside.mk hg
  have HI := Aside.mk hi
  obtain ⟨n1, hn1⟩ : ∃ n, (ks m.L).length = n := ⟨_, rfl⟩
  obtain ⟨n2, hn2⟩ : ∃ n, m.an.length = n := ⟨_, rfl⟩
  obtain ⟨n3, hn3⟩ : ∃ n, m.ow.length = n := ⟨_, rfl⟩
  rw [hn1, hn2, hn3] at X ⊢
  obtain ⟨b, hb⟩ : ∃ b, w.heap.size = b := ⟨_, rfl⟩
  obtain ⟨W1, hW1⟩ : ∃ W1, (((w.alloc (.cells #[.int .i64 m.most, .int .i64 m.last, .slice ra n1 rc, .slice sa n2 sc, .slice ta n3 tc] 34)).alloc (.cells #[.int .i64 2, .int .u32 (id : Nat)] 39)).alloc (.cells #[.int .i64 0, .int .i64 0, .slice none 0 0, .slice none 0 0, .slice none 0 0] 34)) = W1 := ⟨_, rfl⟩
  rw [hW1] at X
  obtain ⟨own1, hown1⟩ : ∃ own1, give own w.heap.size 8 = own1 := ⟨_, rfl⟩
  rw [hown1, hb] at X
  have G1 := Aside.mk (HG.it.sn X.it.n (by rintro (e | e); exact HI.it.1.1 e.symm; exact HI.it.1.2 e.symm))
  obtain ⟨k0, k1, k2, k3, k4, k5, k6⟩ := Sx.cells X
  clear hg h hi hn1 hn2 hn3 hown1
  go_enter Tryd.func14, Tryd.ntmps14
  go_upto_region 1 with fail
  clear hW1 hb
  have R0 := Aside.mk X.it.d.a
  have Kf := fun j => X.it.c0.1.frozen j
  have f3' := Kf 3
  go_upto_region 12 with fail
  have X2 : Aside (Sx own i r w own1 (W1.setCell ⟨b, 3, none⟩ (.slice none 0 0)) x m b 2 id (.slice ra n1 rc) (.slice none 0 0) (.slice ta n3 tc) m.told) := ⟨by
    have s8 : Sn (fun k => k = 8) own1 W1 own1 (W1.setCell ⟨b, 3, none⟩ (.slice none 0 0)) := ⟨fun _ _ => rfl, (Keeps.refl _ _).setCell _ _ (fun _ => X.it.c0.2)⟩
    obtain ⟨z0, z1, z2, z3, z4, h3⟩ := X.it.c2
    refine ⟨X.it.t.sn s8 HI.it.2.1 HI.it.2.2.2.1, ⟨(X.it.d.sn s8 (by decide)).wt, RdN.nil _ _, (X.it.d.sn s8 (by decide)).o⟩, ⟨X.it.c0.1.setCell 3 _, X.it.c0.2⟩, ⟨X.it.c1.1.setOther _ _ (by simp), X.it.c1.2⟩, ⟨z0, z1, z2, z3, z4, ⟨h3.1.setOther _ _ (by simp; omega), h3.2⟩⟩, ⟨X.it.n.agree, ?_⟩, X.it.b⟩
    exact X.it.n.keeps.next (S' := fun k => k = b) ((Keeps.refl _ _).setCell _ _ (fun _ => rfl)) (fun k e hlt => by have := X.it.b; omega)⟩
  have R2 : Aside (RdN own1 (W1.setCell ⟨b, 3, none⟩ (.slice none 0 0)) (.slice sa n2 sc) m.an) := ⟨by
    have s8 : Sn (fun k => k = 8) own1 W1 own1 (W1.setCell ⟨b, 3, none⟩ (.slice none 0 0)) := ⟨fun _ _ => rfl, (Keeps.refl _ _).setCell _ _ (fun _ => X.it.c0.2)⟩
    exact R0.it.sn s8 (by decide)⟩
  clear Kf f3' R0
  clear k0 k1 k2 k3 k4 k5 k6
  clear X G1
  generalize W1.setCell ⟨b, 3, none⟩ (.slice none 0 0) = W2 at X2 R2 ⊢
  have Xd := Aside.mk (X2.it.quiet (Keeps.refl _ _).drew)
  have Rd := Aside.mk (R2.it.quiet (Keeps.refl _ _).drew)
  have FN := Aside.mk HF.it.told
  obtain ⟨mn, hmn⟩ : ∃ mn, m.told = mn := ⟨_, rfl⟩
  rw [hmn] at Xd FN
  have HMN := Aside.mk hmn
  clear hmn X2 R2
  go_region_held3 (fun w' => w'.cell? ⟨b, 0, none⟩ = some (.int .i64 mn.most) ∧ w'.cell? ⟨b, 1, none⟩ = some (.int .i64 mn.last) ∧ w'.cell? ⟨b, 2, none⟩ = some (.slice ra n1 rc) ∧ w'.cell? ⟨b, 3, none⟩ = some (.slice none 0 0) ∧ w'.cell? ⟨b, 4, none⟩ = some (.slice ta n3 tc)) (first | with_reducible exact Sx.cells5 (by with_reducible assumption) | with_reducible exact Sx.cellsS (by with_reducible assumption)) (first
    | (go_at_call 15; with_reducible refine (sx_same P8 R8 Z8).mono ?_; rintro e w9 ⟨rfl, X9⟩; obtain ⟨r0, r1, r2, r3, r4, p0, p1, p2, p3, p4, f0, f1, f2, f3, f4⟩ := Sx.res X9)
    | (go_at_call 16; with_reducible refine (sx_ans' (by with_reducible assumption) HI.it (by with_reducible assumption)).mono ?_; rintro e w8 ⟨ba, bl, bc, rfl, R8, Z8, P8⟩; rw [HMN.it] at P8)
    | fail)
  all_goals have D9 := Aside.mk X9.it.d
  all_goals
    obtain ⟨YC, E⟩ := Sx.fin X9 D9 FN HI.it.2
    unfold set5 at YC E
    generalize (((((w9.setCell ⟨b + 1 + 1, 0, none⟩ (.int .i64 mn.most)).setCell ⟨b + 1 + 1, 1, none⟩ (.int .i64 mn.last)).setCell ⟨b + 1 + 1, 2, none⟩ (.slice ra n1 rc)).setCell ⟨b + 1 + 1, 3, none⟩ (.slice none 0 0)).setCell ⟨b + 1 + 1, 4, none⟩ (.slice ta n3 tc)) = V at YC E ⊢
    have y0 := YC.cell 0
    have y1 := YC.cell 1
    have y2 := YC.cell 2
    have y3 := YC.cell 3
    have y4 := YC.cell 4
    simp only [rcel, List.getElem?_cons_zero, List.getElem?_cons_succ] at y0 y1 y2 y3 y4
    clear YC
    go_wp2
    refine bodyPost_ret (v := .tuple #[.agg #[.int .i64 mn.most, .int .i64 mn.last, .slice ra n1 rc, .slice none 0 0, .slice ta n3 tc], .bool true]) (by simp [results, Tryd.f14, go_sem, y0, y1, y2, y3, y4]) rfl ?_
    rw [HMN.it]
    first | exact E.it | exact E.it.drew

set_option maxRecDepth 20000 in
set_option maxHeartbeats 4000000 in
theorem step17_other (own : Nat → Nat) (w : World) (hg : OnG A w0 own w) (h : Tp own i r w x m v2 v3 v4) (id : Nat) (hi : (i ≠ 0 ∧ r ≠ 0) ∧ i ≠ 8 ∧ i ≠ 9 ∧ r ≠ 8 ∧ r ≠ 9) (kd : Int) (hk : ∀ j : Int, 0 ≤ j → j ≤ 3 → (kd == j) = false) :
    Calls Tryd.prog 14 #[x, .agg #[.int .i64 m.most, .int .i64 m.last, v2, v3, v4], .agg #[.int .i64 kd, .int .u32 (id : Nat)]] w fun e w' => Ends17 own i r w x m.repl e w' := by
  have X := Aside.mk (Sx.start h kd id)
  obtain ⟨ra, rc, rfl, _⟩ := h.d.wt.shape
  obtain ⟨sa, sc, rfl, _⟩ := h.d.a.shape
  obtain ⟨ta, tc, rfl, _⟩ := h.d.o.shape
  have HF := Aside.mk h.f
  have HG := Aside.mk hg
  have HI := Aside.mk hi
  obtain ⟨n1, hn1⟩ : ∃ n, (ks m.L).length = n := ⟨_, rfl⟩
  obtain ⟨n2, hn2⟩ : ∃ n, m.an.length = n := ⟨_, rfl⟩
  obtain ⟨n3, hn3⟩ : ∃ n, m.ow.length = n := ⟨_, rfl⟩
  rw [hn1, hn2, hn3] at X ⊢
  obtain ⟨b, hb⟩ : ∃ b, w.heap.size = b := ⟨_, rfl⟩
  obtain ⟨W1, hW1⟩ : ∃ W1, (((w.alloc (.cells #[.int .i64 m.most, .int .i64 m.last, .slice ra n1 rc, .slice sa n2 sc, .slice ta n3 tc] 34)).alloc (.cells #[.int .i64 kd, .int .u32 (id : Nat)] 39)).alloc (.cells #[.int .i64 0, .int .i64 0, .slice none 0 0, .slice none 0 0, .slice none 0 0] 34)) = W1 := ⟨_, rfl⟩
  rw [hW1] at X
  obtain ⟨own1, hown1⟩ : ∃ own1, give own w.heap.size 8 = own1 := ⟨_, rfl⟩
  rw [hown1, hb] at X
  have G1 := Aside.mk (HG.it.sn X.it.n (by rintro (e | e); exact HI.it.1.1 e.symm; exact HI.it.1.2 e.symm))
  obtain ⟨k0, k1, k2, k3, k4, k5, k6⟩ := Sx.cells X
  clear hg h hi hn1 hn2 hn3 hown1
  go_enter Tryd.func14, Tryd.ntmps14
  go_upto_region 1 with fail
  clear hW1 hb
  have q0 := hk 0 (by decide) (by decide)
  have q1 := hk 1 (by decide) (by decide)
  have q2 := hk 2 (by decide) (by decide)
  have q3 := hk 3 (by decide) (by decide)
  clear hk
  have DR := Aside.mk (drepl X.it.d HF.it.ok)
  go_upto_region 17 with (first
    | (go_at_call 31; refine DR.it.mono ?_; clear DR; rintro e w2 ⟨ea, el, ec, fa, fl, fc, ga, gl, gc, rfl, D2, K2⟩)
    | fail)
  obtain ⟨own3, Y3⟩ := X.it.next K2.it D2.it
  have G3 : Aside (OnG A w0 own3 (w2.alloc (.cells #[.int .i64 m.repl.most, .int .i64 m.repl.last, .slice ea el ec, .slice fa fl fc, .slice ga gl gc] 34))) := ⟨HG.it.sn Y3.x.n (by rintro (e | e); exact HI.it.1.1 e.symm; exact HI.it.1.2 e.symm)⟩
  have Y := Aside.mk Y3
  clear D2 Y3 X K2
  generalize hW3 : (w2.alloc (.cells #[.int .i64 m.repl.most, .int .i64 m.repl.last, .slice ea el ec, .slice fa fl fc, .slice ga gl gc] 34)) = W3 at Y G3 ⊢
  clear hW3
  generalize w2.heap.size = nb at Y ⊢
  have FN := Aside.mk HF.it.repl
  have BP := Aside.mk (prepl Y.it.x.t)
  obtain ⟨h1, hh1⟩ : ∃ h1, hd0 m.ow = h1 := ⟨_, rfl⟩
  obtain ⟨s1, hs1⟩ : ∃ s1, some0 m.ow = s1 := ⟨_, rfl⟩
  rw [hh1, hs1] at BP ⊢
  have e1 : ((h1 : Int) == h1) = true := by simp
  have e2 : (s1 == s1) = true := by simp
  obtain ⟨mn, hmn⟩ : ∃ mn, m.repl = mn := ⟨_, rfl⟩
  rw [hmn] at BP Y FN ⊢
  have HMN := Aside.mk hmn
  clear hmn
  clear hh1 hs1
  go_upto_region 18 with (first
    | (go_at_call 19; refine BP.it.mono ?_; clear BP; rintro e w4 ⟨rfl, R4⟩)
    | fail)
  obtain ⟨own4, t4, s4⟩ := R4.it
  have Y4 := Aside.mk (Y.it.prog HI.it.2 t4 (sn_i s4))
  clear k0 k1 k2 k3 k4 k5 k6
  clear Y G3 R4 t4 s4
  obtain ⟨k0, k1, k2, k3, k4, k6⟩ := Sy.cells Y4
  have X9 := Aside.mk Y4.it.x
  have D9 := Aside.mk Y4.it.d
  have hne := Y4.it.n
  obtain ⟨r0, r1, r2, r3, r4, p0, p1, p2, p3, p4, f0, f1, f2, f3, f4⟩ := Sx.res X9
  go_wp2_with fail
  all_goals
    obtain ⟨YC, E⟩ := Sx.fin X9 D9 FN HI.it.2
    unfold set5 at YC E
    generalize (((((w4.setCell ⟨b + 1 + 1, 0, none⟩ (.int .i64 mn.most)).setCell ⟨b + 1 + 1, 1, none⟩ (.int .i64 mn.last)).setCell ⟨b + 1 + 1, 2, none⟩ (.slice ea el ec)).setCell ⟨b + 1 + 1, 3, none⟩ (.slice fa fl fc)).setCell ⟨b + 1 + 1, 4, none⟩ (.slice ga gl gc)) = V at YC E ⊢
    have y0 := YC.cell 0
    have y1 := YC.cell 1
    have y2 := YC.cell 2
    have y3 := YC.cell 3
    have y4 := YC.cell 4
    simp only [rcel, List.getElem?_cons_zero, List.getElem?_cons_succ] at y0 y1 y2 y3 y4
    clear YC
    go_wp2
    refine bodyPost_ret (v := .tuple #[.agg #[.int .i64 mn.most, .int .i64 mn.last, .slice ea el ec, .slice fa fl fc, .slice ga gl gc], .bool true]) (by simp [results, Tryd.f14, go_sem, y0, y1, y2, y3, y4]) rfl ?_
    rw [HMN.it]
    first | exact E.it | exact E.it.drew

theorem step17 (own : Nat → Nat) (w : World) (hg : OnG A w0 own w) (h : Tp own i r w x m v2 v3 v4) (kd : Int) (id : Nat) (hi : (i ≠ 0 ∧ r ≠ 0) ∧ i ≠ 8 ∧ i ≠ 9 ∧ r ≠ 8 ∧ r ≠ 9) (hl : m.last < 4294967295) (ht : id ≤ 4294967295) (hb : (m.an.length + 1) * 4 ≤ 140737488355328) :
    Calls Tryd.prog 14 #[x, .agg #[.int .i64 m.most, .int .i64 m.last, v2, v3, v4], .agg #[.int .i64 kd, .int .u32 (id : Nat)]] w fun e w' => Ends17 own i r w x (stepM m kd id) e w' := by
  unfold stepM
  by_cases h0 : kd = 0
  · rw [if_pos h0]; subst h0; exact step17_0 own w hg h id hi hl
  rw [if_neg h0]
  by_cases h1 : kd = 1
  · rw [if_pos h1]; subst h1; exact step17_1 own w hg h id hi ht hb
  rw [if_neg h1]
  by_cases h2 : kd = 2
  · rw [if_pos h2]; subst h2; exact step17_2 own w hg h id hi
  rw [if_neg h2]
  by_cases h3 : kd = 3
  · rw [if_pos h3]; subst h3; exact step17_3 own w hg h id hi
  rw [if_neg h3]
  exact step17_other own w hg h id hi kd (fun j a b => beq_eq_false_iff_ne.2 (fun e => by omega))
theorem stepM_last (m : Pm) (kd : Int) (id : Nat) (hl : m.last < 4294967295) : (stepM m kd id).last ≤ m.last + 1 := by
  unfold stepM
  split
  · exact m.last_ask hl
  split
  · rw [Pm.last_heard]; omega
  split
  · exact Nat.le_succ _
  split
  · rw [Pm.last_asked]; omega
  · exact Nat.le_succ _
theorem stepM_an (m : Pm) (kd : Int) (id : Nat) : (stepM m kd id).an.length ≤ m.an.length + 1 := by
  unfold stepM
  split
  · unfold Pm.ask; split <;> simp
  split
  · unfold Pm.heard; split <;> simp
  split
  · simp [Pm.told]
  split
  · unfold Pm.asked; split <;> simp
  · exact Nat.le_succ _
end Go.Proofs.YtnmpnajmhfonhaaDoor
