/-
  culvertlaw17.PingsAnswers
-/
import Derived.Test.YtnmpnajmhfonhaaDoorPgY
import Derived.Test.YtnmpnajmhfonhaaDoorOpenPg
namespace Go.Proofs.YtnmpnajmhfonhaaDoor
open Go.RowKit

variable {A : Nat → Addr} {w w' W w0 : World} {own own' : Nat → Nat} {wb i r : Nat} {x : Value} {m : Pm} {v2 v3 v4 : Value} {cs : List Value} {I : Nat → Prop} {kd : Int} {id : Nat}

/-- the Pings (owners 1 and r), the document's (owner 9) and its box (owner 8) -/
structure Pw (A : Nat → Addr) (w0 : World) (own : Nat → Nat) (r : Nat) (W : World) (x : Value) (m : Pm) (v2 v3 v4 : Value) (wb : Nat) (cs : List Value) : Prop where
  g : OnG A w0 own W
  t : Tp own 1 r W x m v2 v3 v4
  c : CellsO own 8 W wb 34 cs
theorem Pw.sn (h : Pw A w0 own r W x m v2 v3 v4 wb cs) (s : Sn I own W own' w') (h0 : ¬ I 0) (h1 : ¬ I 1) (hr : ¬ I r) (h8 : ¬ I 8) (h9 : ¬ I 9) : Pw A w0 own' r w' x m v2 v3 v4 wb cs := ⟨h.g.sn s h0, h.t.sn s h1 hr h9, h.c.sn s h8⟩
theorem Pw.quiet (h : Pw A w0 own r W x m v2 v3 v4 wb cs) (hk : Keeps Nowhere W w') : Pw A w0 own r w' x m v2 v3 v4 wb cs := h.sn (I := fun _ => False) (Sn.same hk) (fun x => x) (fun x => x) (fun x => x) (fun x => x) (fun x => x)
theorem Pw.step (h : Pw A w0 own r W x m v2 v3 v4 wb cs) (hk : Keeps Nowhere W w') (j : Nat) : Pw A w0 (give own W.heap.size j) r w' x m v2 v3 v4 wb cs := h.sn (I := fun _ => False) (Sn.quiet hk j) (fun x => x) (fun x => x) (fun x => x) (fun x => x) (fun x => x)
theorem Pw.write {y0 y1 y2 y3 y4 : Value} (h : Pw A w0 own r W x m v2 v3 v4 wb [y0, y1, y2, y3, y4]) (hr : r ≠ 8) : Pw A w0 own r (set5 W wb (.int .i64 m.most) (.int .i64 m.last) v2 v3 v4) x m v2 v3 v4 wb (rcel m v2 v3 v4) := by
  have s8 : Sn (fun k => k = 8) own W own (set5 W wb (.int .i64 m.most) (.int .i64 m.last) v2 v3 v4) := ⟨fun _ _ => rfl, (keeps5 W wb _ _ _ _ _).mono (fun k e _ => by rw [e]; exact h.c.2)⟩
  exact ⟨h.g.sn s8 (by decide), h.t.sn s8 (by decide) hr (by decide), ⟨cells5 h.c.1 _ _ _ _ _, h.c.2⟩⟩
theorem Pw.cells (h : Aside (Pw A w0 own r W x m v2 v3 v4 wb (rcel m v2 v3 v4))) : W.cell? ⟨wb, 0, none⟩ = some (.int .i64 m.most) ∧ W.cell? ⟨wb, 1, none⟩ = some (.int .i64 m.last) ∧ W.cell? ⟨wb, 2, none⟩ = some v2 ∧ W.cell? ⟨wb, 3, none⟩ = some v3 ∧ W.cell? ⟨wb, 4, none⟩ = some v4 :=
  ⟨by rw [h.it.c.1.cell]; rfl, by rw [h.it.c.1.cell]; rfl, by rw [h.it.c.1.cell]; rfl, by rw [h.it.c.1.cell]; rfl, by rw [h.it.c.1.cell]; rfl⟩
theorem pw_wait (h : Aside (Pw A w0 own r W x m v2 v3 v4 wb cs)) : Calls Tryd.prog 11 #[x] W fun e w' => ∃ (a : Option Addr) (l c : Nat), e = .returned (.slice a l c) ∧ Aside (ReadsK 1 w' (.slice a l c) (ks m.L).length ((ks m.L).map e32)) ∧ Aside (Pw A w0 own r w' x m v2 v3 v4 wb cs) := by
  refine (pwait h.it.t.t).mono ?_
  rintro e w' ⟨a, c, rfl, R, K⟩
  exact ⟨a, _, c, rfl, ⟨by rw [len_ks]; exact owns_readsK R.it⟩, ⟨h.it.quiet K.it⟩⟩
theorem pw_same {u z : Value} (h : Aside (Pw A w0 own r W x m v2 v3 v4 wb cs)) {l : List Nat} (hu : Aside (ReadsK 1 W u l.length (l.map e32))) (hz : RdN own W z l) : Calls Tryd.prog 15 #[u, z] W fun e w' => e = .returned (.bool true) ∧ Aside (Pw A w0 own r w' x m v2 v3 v4 wb cs) := by
  refine (same17 u z l hu.it hz.r).mono ?_
  rintro e w' ⟨rfl, K⟩
  exact ⟨rfl, ⟨h.it.quiet K.it⟩⟩
theorem pw_sameW {u : Value} (h : Aside (Pw A w0 own r W x m v2 v3 v4 wb cs)) (hu : Aside (ReadsK 1 W u (ks m.L).length ((ks m.L).map e32))) : Calls Tryd.prog 15 #[u, v2] W fun e w' => e = .returned (.bool true) ∧ Aside (Pw A w0 own r w' x m v2 v3 v4 wb cs) := pw_same h hu h.it.t.d.wt
theorem pw_owed (h : Aside (Pw A w0 own r W x m v2 v3 v4 wb cs)) : Calls Tryd.prog 10 #[x] W fun e w' => e = .returned (.int .i64 m.ow.length) ∧ Aside (Pw A w0 own r w' x m v2 v3 v4 wb cs) := by
  refine (powed h.it.t.t).mono ?_
  rintro e w' ⟨rfl, K⟩
  exact ⟨rfl, ⟨h.it.quiet K.it⟩⟩
/-- Answered, and the document's list of them as it stood -/
structure Pt17 (A : Nat → Addr) (w0 : World) (own : Nat → Nat) (r : Nat) (W : World) (x : Value) (m : Pm) (v3 : Value) (L : List Nat) (wb : Nat) : Prop where
  g : OnG A w0 own W
  t : PgV own 1 r W x m
  d : RdN own W v3 L
  c : ∃ y0 y1 y2 y4, CellsO own 8 W wb 34 [y0, y1, y2, v3, y4]
theorem Pw.last (h : Pw A w0 own r W x m v2 v3 v4 wb (rcel m v2 v3 v4)) : Pt17 A w0 own r W x m v3 m.an wb := ⟨h.g, h.t.t, h.t.d.a, _, _, _, _, h.c⟩
theorem Pt17.cell {L : List Nat} (h : Aside (Pt17 A w0 own r W x m v3 L wb)) : W.cell? ⟨wb, 3, none⟩ = some v3 := by
  obtain ⟨y0, y1, y2, y4, h⟩ := h.it.c
  exact h.1.cell 3
theorem Pt17.quiet {L : List Nat} (h : Pt17 A w0 own r W x m v3 L wb) (hk : Keeps Nowhere W w') : Pt17 A w0 own r w' x m v3 L wb := by
  obtain ⟨y0, y1, y2, y4, hc⟩ := h.c
  exact ⟨h.g.quiet hk, h.t.quiet hk, h.d.quiet hk, y0, y1, y2, y4, hc.sn (I := fun _ => False) (Sn.same hk) (fun x => x)⟩
theorem pt_ans {L : List Nat} (h : Aside (Pt17 A w0 own r W x m v3 L wb)) : Calls Tryd.prog 16 #[x] W fun e w' => ∃ (a : Option Addr) (c : Nat), e = .returned (.slice a m.an.length c) ∧ Aside (ReadsK 1 w' (.slice a m.an.length c) m.an.length (m.an.map e32)) ∧ Aside (Pt17 A w0 own r w' x m.told v3 L wb) := by
  refine (panswered h.it.t).mono ?_
  rintro e w' ⟨a, c, rfl, R, _, X⟩
  obtain ⟨y0, y1, y2, y4, hc⟩ := h.it.c
  exact ⟨a, c, rfl, ⟨owns_readsK R.it⟩, ⟨h.it.g.sn X.it.2 (by decide), X.it.1 r, h.it.d.sn X.it.2 (by decide), y0, y1, y2, y4, hc.sn X.it.2 (by decide)⟩⟩
theorem pt_same {u : Value} {L : List Nat} (h : Aside (Pt17 A w0 own r W x m v3 L wb)) (hu : Aside (ReadsK 1 W u L.length (L.map e32))) : Calls Tryd.prog 15 #[u, v3] W fun e w' => e = .returned (.bool true) ∧ Aside (Pt17 A w0 own r w' x m v3 L wb) := by
  refine (same17 u v3 L hu.it h.it.d.r).mono ?_
  rintro e w' ⟨rfl, K⟩
  exact ⟨rfl, ⟨h.it.quiet K.it⟩⟩

set_option maxRecDepth 20000 in
set_option maxHeartbeats 4000000 in
theorem pingsAnswers_walkU {A : Nat → Addr} (n : Int) (s : Value) (zs : List OpV17) (w : World) (hs : Sents 124 codeVars A w) (hz : Ops17ArgU w s zs) :
    Calls Tryd.prog 4 #[.int .i64 n, s] w fun e w' => e = .returned (.bool true) ∧ Below w.heap.size w w' := by
  obtain ⟨hz, hz20⟩ := hz
  have HZ := Aside.mk hz
  obtain ⟨a, c, rfl, hzc, hcm, _⟩ := hz
  obtain ⟨N, hN⟩ : ∃ N, zs.length = N := ⟨_, rfl⟩
  have HN := Aside.mk hN
  rw [hN] at hzc hz20 HZ ⊢
  have FX := Aside.mk (fixed17 hs)
  have HS := Aside.mk hs
  have hNm : (N : Int) ≤ 1048576 := by omega
  clear hs hN
  go_enter Tryd.func4, Tryd.ntmps4
  go_upto_region 3 with (go_at_call 12; refine FX.it.mono ?_; rintro e w1 ⟨rfl, K1⟩)
  have G1 := Aside.mk ((OnG.start HS.it).sn (I := fun _ => False) (Sn.same K1.it) (fun x => x))
  clear FX
  by_cases hn : n < 1 ∨ 1024 < n
  · have BN := Aside.mk (pnew_no n w1 _ (G1.it.sents.cell 1 _ rfl) hn)
    have DN := Aside.mk (fun W => dnew_no n W hn)
    clear hn
    go_upto_region 4 with (first | (go_at_call 8; refine BN.it.mono ?_; clear BN; rintro e w2 ⟨rfl, K2⟩) | fail)
    go_upto_region 5 with (first | (go_at_call 13; refine (DN.it w2).mono ?_; clear DN; rintro e w3 ⟨rfl, K3⟩) | fail)
    obtain ⟨wb, hwb⟩ : ∃ wb, w3.heap.size = wb := ⟨_, rfl⟩
    obtain ⟨own4, P4⟩ : ∃ own4, Aside (Pw A w own4 1 (w3.alloc (.cells #[.int .i64 0, .int .i64 0, .slice none 0 0, .slice none 0 0, .slice none 0 0] 34)) (.pointer none) Pm.zero (.slice none 0 0) (.slice none 0 0) (.slice none 0 0) wb (rcel Pm.zero (.slice none 0 0) (.slice none 0 0) (.slice none 0 0))) := by
      have G3 := G1.it.quiet (K2.it.trans K3.it)
      have s4 : Sn (fun _ => False) (fun _ => 0) w3 (give (fun _ => 0) w3.heap.size 8) (w3.alloc (.cells #[.int .i64 0, .int .i64 0, .slice none 0 0, .slice none 0 0, .slice none 0 0] 34)) := Sn.quiet ((Keeps.refl _ _).alloc _) 8
      exact ⟨_, ⟨G3.sn s4 (fun x => x), ⟨.inl ⟨rfl, rfl⟩, Dm.zero _ _ rfl rfl rfl, ⟨Pm.zero_ok, fun x hx => by cases hx⟩⟩, by rw [← hwb]; exact Cells.new w3 _ _, give_new (by rw [← hwb]; exact Nat.le_refl _)⟩⟩
    rw [hwb]
    clear hwb
    generalize hW4 : (w3.alloc (.cells #[.int .i64 0, .int .i64 0, .slice none 0 0, .slice none 0 0, .slice none 0 0] 34)) = W4 at P4 ⊢
    clear hW4
    have CD := Aside.mk (code_of P4.it.g.sents (Coded.mk 1 2 (by decide) (by decide) rfl))
    go_upto_region 8 with (first | (go_at_call 9; refine CD.it.mono ?_; rintro e w5 ⟨rfl, hw5⟩; subst hw5) | fail)
    clear CD
    have L4 : Aside (Pm.zero.last ≤ 0 ∧ Pm.zero.an.length ≤ 0) := ⟨Nat.le_refl _, Nat.le_refl _⟩
    go_loopw [38] (fun jv wr => ∃ (j : Nat) (m : Pm) (a1 : Option Addr) (l1 c1 : Nat) (a2 : Option Addr) (l2 c2 : Nat) (a3 : Option Addr) (l3 c3 : Nat) (own : Nat → Nat), jv = .int .i64 j ∧ j ≤ N ∧ Aside (m.last ≤ j ∧ m.an.length ≤ j) ∧ Aside (Pw A w own 1 wr (.pointer none) m (.slice a1 l1 c1) (.slice a2 l2 c2) (.slice a3 l3 c3) wb (rcel m (.slice a1 l1 c1) (.slice a2 l2 c2) (.slice a3 l3 c3)))) (fun jv _ => N - natOf jv)
    case atStart => exact ⟨0, Pm.zero, none, 0, 0, none, 0, 0, none, 0, 0, own4, rfl, Nat.zero_le _, L4, P4⟩
    case round =>
      clear P4 L4
      obtain ⟨j, m, a1, l1, c1, a2, l2, c2, a3, l3, c3, own, rfl, hj, HL, P⟩ := hrel
      rcases Nat.eq_or_lt_of_le hj with rfl | hlt
      · have Q := Aside.mk (P.it.last.quiet (Keeps.refl _ _).drew)
        go_upto_region 15 with fail
        clear P
        go_region_held3 (fun w' => w'.cell? ⟨wb, 3, none⟩ = some (.slice a2 l2 c2)) (first | with_reducible exact Pt17.cell (by with_reducible assumption)) (first
          | (go_at_call 16; with_reducible refine (pt_ans Q8).mono ?_; rintro e w9 ⟨d9, e9, rfl, R9, Q9⟩; rw [show m.told.an.length = 0 from rfl])
          | (go_at_call 15; with_reducible refine (pt_same Q7 R7).mono ?_; rintro e w8 ⟨rfl, Q8⟩)
          | (go_at_call 16; with_reducible refine (pt_ans (by with_reducible assumption)).mono ?_; rintro e w7 ⟨d7, e7, rfl, R7, Q7⟩)
          | fail)
        all_goals
          go_wp2_with fail
          go_ret
          exact ⟨rfl, (Keeps.ofBelow Q9.it.g.g.bel).bel⟩
      · obtain ⟨z, hz⟩ : ∃ z, zs[j]? = some z := ⟨_, List.getElem?_eq_getElem (by rw [HN.it]; exact hlt)⟩
        have hzw := HZ.it
        rw [← HN.it] at hzw
        obtain ⟨b, o, rfl, x0, x1, hid⟩ := op17_cells hzw hz
        clear hz hzw
        obtain ⟨kd, id⟩ := z
        simp only at x0 x1 hid
        have KW : Keeps Nowhere w wr := Keeps.ofBelow P.it.g.g.bel
        have z0 : wr.cell? ⟨b, o + j * 2, none⟩ = some (.int .i64 kd) := by rw [World.cell?_of_block (w := w) (KW.block b (World.block_lt_of_cell? w _ x0) (fun x => x))]; exact x0
        have z1 : wr.cell? ⟨b, o + j * 2 + 1, none⟩ = some (.int .u32 (id : Nat)) := by rw [World.cell?_of_block (w := w) (KW.block b (World.block_lt_of_cell? w _ x0) (fun x => x))]; exact x1
        have HID := Aside.mk hid
        clear x0 x1 KW hid
        have Q2 := Aside.mk (P.it.quiet ((Keeps.refl _ _).alloc (.cells #[.int .i64 kd, .int .u32 (id : Nat)] 39)))
        have OB : Cells (wr.alloc (.cells #[.int .i64 kd, .int .u32 (id : Nat)] 39)) wr.heap.size 39 [.int .i64 kd, .int .u32 (id : Nat)] := Cells.new wr _ _
        have d0 := OB.cell 0
        have d1 := OB.cell 1
        simp only [List.getElem?_cons_zero, List.getElem?_cons_succ] at d0 d1
        go_upto_region 10 with fail
        clear z0 z1 OB P
        generalize (wr.alloc (.cells #[.int .i64 kd, .int .u32 (id : Nat)] 39)) = W2 at Q2 d0 d1 ⊢
        generalize wr.heap.size = ob at d0 d1 ⊢
        obtain ⟨u0, u1, u2, u3, u4⟩ := Pw.cells Q2
        have ST := Aside.mk (step17 own W2 Q2.it.g Q2.it.t kd id (by decide) (by have := HL.it.1; omega) HID.it (by have := HL.it.2; omega))
        have HL3 : Aside ((stepM m kd id).last ≤ j + 1 ∧ (stepM m kd id).an.length ≤ j + 1) := ⟨by have h1 := stepM_last m kd id (by have := HL.it.1; omega); have h2 := stepM_an m kd id; have := HL.it; omega⟩
        obtain ⟨mn, hmn⟩ : ∃ mn, stepM m kd id = mn := ⟨_, rfl⟩
        rw [hmn] at ST HL3
        clear hmn
        go_upto_region 11 with (first | (go_at_call 14; refine ST.it.mono ?_; clear ST; rintro e w6 ⟨b1, m1, d1', b2, m2, d2, b3, m3, d3, own6, rfl, X6⟩) | fail)
        have Q7 : Aside (Pw A w own6 1 (w6.alloc (.cells #[.int .i64 mn.most, .int .i64 mn.last, .slice b1 m1 d1', .slice b2 m2 d2, .slice b3 m3 d3] 34)) (.pointer none) mn (.slice b1 m1 d1') (.slice b2 m2 d2) (.slice b3 m3 d3) wb (rcel m (.slice a1 l1 c1) (.slice a2 l2 c2) (.slice a3 l3 c3))) := ⟨Pw.quiet ⟨Q2.it.g.sn X6.it.2 (by decide), X6.it.1, Q2.it.c.sn X6.it.2 (by decide)⟩ ((Keeps.refl _ _).alloc _)⟩
        have NB := Cells.new w6 34 (rcel mn (.slice b1 m1 d1') (.slice b2 m2 d2) (.slice b3 m3 d3))
        have n0 := NB.cell 0
        have n1 := NB.cell 1
        have n2 := NB.cell 2
        have n3 := NB.cell 3
        have n4 := NB.cell 4
        simp only [List.getElem?_cons_zero, List.getElem?_cons_succ, rcel] at n0 n1 n2 n3 n4
        have QF := Aside.mk (Q7.it.write (by decide))
        have o0 := Q7.it.c.1.cell 0
        have o1 := Q7.it.c.1.cell 1
        have o2 := Q7.it.c.1.cell 2
        have o3 := Q7.it.c.1.cell 3
        have o4 := Q7.it.c.1.cell 4
        have of := fun j => Q7.it.c.1.frozen j
        have of0 := of 0
        have of1 := of 1
        have of2 := of 2
        have of3 := of 3
        have of4 := of 4
        simp only [List.getElem?_cons_zero, List.getElem?_cons_succ, rcel] at o0 o1 o2 o3 o4
        unfold set5 at QF
        clear NB X6 Q7 Q2 u0 u1 u2 u3 u4 d0 d1 of
        generalize (w6.alloc (.cells #[.int .i64 mn.most, .int .i64 mn.last, .slice b1 m1 d1', .slice b2 m2 d2, .slice b3 m3 d3] 34)) = W7 at QF n0 n1 n2 n3 n4 o0 o1 o2 o3 o4 of0 of1 of2 of3 of4 ⊢
        generalize w6.heap.size = nb at n0 n1 n2 n3 n4 ⊢
        go_upto_region 12 with fail
        clear n0 n1 n2 n3 n4 o0 o1 o2 o3 o4 of0 of1 of2 of3 of4
        generalize (((((W7.setCell ⟨wb, 0, none⟩ (.int .i64 mn.most)).setCell ⟨wb, 1, none⟩ (.int .i64 mn.last)).setCell ⟨wb, 2, none⟩ (.slice b1 m1 d1')).setCell ⟨wb, 3, none⟩ (.slice b2 m2 d2)).setCell ⟨wb, 4, none⟩ (.slice b3 m3 d3)) = W8 at QF ⊢
        have Qd := Aside.mk (QF.it.quiet (Keeps.refl _ _).drew)
        obtain ⟨c3', hc3⟩ : ∃ c, Value.slice b3 m3 d3 = .slice b3 mn.ow.length c := by
          obtain ⟨a, c, h, _⟩ := QF.it.t.d.o.shape
          injection h with h1 h2 h3
          exact ⟨d3, by rw [h2]⟩
        injection hc3 with _ hm3 _
        have HM3 := Aside.mk hm3
        have e3 : ((m3 : Int) != m3) = false := by simp
        clear QF hm3
        go_region_held3 (fun w' => w'.cell? ⟨wb, 0, none⟩ = some (.int .i64 mn.most) ∧ w'.cell? ⟨wb, 1, none⟩ = some (.int .i64 mn.last) ∧ w'.cell? ⟨wb, 2, none⟩ = some (.slice b1 m1 d1') ∧ w'.cell? ⟨wb, 3, none⟩ = some (.slice b2 m2 d2) ∧ w'.cell? ⟨wb, 4, none⟩ = some (.slice b3 m3 d3)) (first | with_reducible exact Pw.cells (by with_reducible assumption)) (first
          | (go_at_call 10; with_reducible refine (pw_owed Q10).mono ?_; rintro e w11 ⟨rfl, Q11⟩; rw [← HM3.it])
          | (go_at_call 15; with_reducible refine (pw_sameW Q9 R9).mono ?_; rintro e w10 ⟨rfl, Q10⟩)
          | (go_at_call 11; with_reducible refine (pw_wait (by with_reducible assumption)).mono ?_; rintro e w9 ⟨wa, wl, wc, rfl, R9, Q9⟩)
          | fail)
        all_goals
          go_wp2_with fail
          go_roundw
          case rel => exact ⟨j + 1, mn, b1, m1, d1', b2, m2, d2, b3, m3, d3, own6, by go_num, by omega, HL3, Q11⟩
          case measure => simp [natOf]; omega

  · obtain ⟨mn, hmn⟩ : ∃ mn : Nat, n = mn := ⟨n.toNat, by omega⟩
    subst hmn
    have h12 : Aside (1 ≤ mn ∧ mn ≤ 1024) := ⟨by omega⟩
    have BN := Aside.mk (pnew_ok mn h12.it.1 h12.it.2 w1 (fun _ => 0) 1 1)
    have DN := Aside.mk (fun W => dnew_ok mn W (by have := h12.it; omega) (by have := h12.it; omega))
    clear hn
    go_upto_region 4 with (first | (go_at_call 8; refine BN.it.mono ?_; clear BN; rintro e w2 ⟨p, rfl, T2, _, K2⟩) | fail)
    go_upto_region 5 with (first | (go_at_call 13; refine (DN.it w2).mono ?_; clear DN; rintro e w3 ⟨rfl, K3⟩) | fail)
    obtain ⟨wb, hwb⟩ : ∃ wb, w3.heap.size = wb := ⟨_, rfl⟩
    obtain ⟨own4, P4⟩ : ∃ own4, Aside (Pw A w own4 1 (w3.alloc (.cells #[.int .i64 mn, .int .i64 0, .slice none 0 0, .slice none 0 0, .slice none 0 0] 34)) (ptr p) (Pm.new mn) (.slice none 0 0) (.slice none 0 0) (.slice none 0 0) wb (rcel (Pm.new mn) (.slice none 0 0) (.slice none 0 0) (.slice none 0 0))) := by
      have s2 : Sn (fun _ => False) (fun _ => 0) w1 (give (fun _ => 0) w1.heap.size 1) w2 := Sn.quiet K2.it 1
      have s4 : Sn (fun _ => False) (give (fun _ => 0) w1.heap.size 1) w2 (give (give (fun _ => 0) w1.heap.size 1) w2.heap.size 8) (w3.alloc (.cells #[.int .i64 mn, .int .i64 0, .slice none 0 0, .slice none 0 0, .slice none 0 0] 34)) := Sn.quiet (K3.it.alloc _) 8
      exact ⟨_, ⟨(G1.it.sn s2 (fun x => x)).sn s4 (fun x => x), ⟨.inr ⟨p, rfl, T2.it.sn s4 (fun x => x) (fun x => x)⟩, Dm.zero _ _ rfl rfl rfl, ⟨Pm.new_ok h12.it.2, fun x hx => by cases hx⟩⟩, by rw [← hwb]; exact Cells.new w3 _ _, give_new (by rw [← hwb]; exact K3.it.size)⟩⟩
    rw [hwb]
    clear hwb T2
    generalize hW4 : (w3.alloc (.cells #[.int .i64 mn, .int .i64 0, .slice none 0 0, .slice none 0 0, .slice none 0 0] 34)) = W4 at P4 ⊢
    clear hW4
    have CD := Aside.mk (code_nil W4)
    go_upto_region 8 with (first | (go_at_call 9; refine CD.it.mono ?_; rintro e w5 ⟨rfl, hw5⟩; subst hw5) | fail)
    clear CD
    have L4 : Aside ((Pm.new mn).last ≤ 0 ∧ (Pm.new mn).an.length ≤ 0) := ⟨Nat.le_refl _, Nat.le_refl _⟩
    go_loopw [38] (fun jv wr => ∃ (j : Nat) (m : Pm) (a1 : Option Addr) (l1 c1 : Nat) (a2 : Option Addr) (l2 c2 : Nat) (a3 : Option Addr) (l3 c3 : Nat) (own : Nat → Nat), jv = .int .i64 j ∧ j ≤ N ∧ Aside (m.last ≤ j ∧ m.an.length ≤ j) ∧ Aside (Pw A w own 1 wr (ptr p) m (.slice a1 l1 c1) (.slice a2 l2 c2) (.slice a3 l3 c3) wb (rcel m (.slice a1 l1 c1) (.slice a2 l2 c2) (.slice a3 l3 c3)))) (fun jv _ => N - natOf jv)
    case atStart => exact ⟨0, (Pm.new mn), none, 0, 0, none, 0, 0, none, 0, 0, own4, rfl, Nat.zero_le _, L4, P4⟩
    case round =>
      clear P4 L4
      obtain ⟨j, m, a1, l1, c1, a2, l2, c2, a3, l3, c3, own, rfl, hj, HL, P⟩ := hrel
      rcases Nat.eq_or_lt_of_le hj with rfl | hlt
      · have Q := Aside.mk (P.it.last.quiet (Keeps.refl _ _).drew)
        go_upto_region 15 with fail
        clear P
        go_region_held3 (fun w' => w'.cell? ⟨wb, 3, none⟩ = some (.slice a2 l2 c2)) (first | with_reducible exact Pt17.cell (by with_reducible assumption)) (first
          | (go_at_call 16; with_reducible refine (pt_ans Q8).mono ?_; rintro e w9 ⟨d9, e9, rfl, R9, Q9⟩; rw [show m.told.an.length = 0 from rfl])
          | (go_at_call 15; with_reducible refine (pt_same Q7 R7).mono ?_; rintro e w8 ⟨rfl, Q8⟩)
          | (go_at_call 16; with_reducible refine (pt_ans (by with_reducible assumption)).mono ?_; rintro e w7 ⟨d7, e7, rfl, R7, Q7⟩)
          | fail)
        all_goals
          go_wp2_with fail
          go_ret
          exact ⟨rfl, (Keeps.ofBelow Q9.it.g.g.bel).bel⟩
      · obtain ⟨z, hz⟩ : ∃ z, zs[j]? = some z := ⟨_, List.getElem?_eq_getElem (by rw [HN.it]; exact hlt)⟩
        have hzw := HZ.it
        rw [← HN.it] at hzw
        obtain ⟨b, o, rfl, x0, x1, hid⟩ := op17_cells hzw hz
        clear hz hzw
        obtain ⟨kd, id⟩ := z
        simp only at x0 x1 hid
        have KW : Keeps Nowhere w wr := Keeps.ofBelow P.it.g.g.bel
        have z0 : wr.cell? ⟨b, o + j * 2, none⟩ = some (.int .i64 kd) := by rw [World.cell?_of_block (w := w) (KW.block b (World.block_lt_of_cell? w _ x0) (fun x => x))]; exact x0
        have z1 : wr.cell? ⟨b, o + j * 2 + 1, none⟩ = some (.int .u32 (id : Nat)) := by rw [World.cell?_of_block (w := w) (KW.block b (World.block_lt_of_cell? w _ x0) (fun x => x))]; exact x1
        have HID := Aside.mk hid
        clear x0 x1 KW hid
        have Q2 := Aside.mk (P.it.quiet ((Keeps.refl _ _).alloc (.cells #[.int .i64 kd, .int .u32 (id : Nat)] 39)))
        have OB : Cells (wr.alloc (.cells #[.int .i64 kd, .int .u32 (id : Nat)] 39)) wr.heap.size 39 [.int .i64 kd, .int .u32 (id : Nat)] := Cells.new wr _ _
        have d0 := OB.cell 0
        have d1 := OB.cell 1
        simp only [List.getElem?_cons_zero, List.getElem?_cons_succ] at d0 d1
        go_upto_region 10 with fail
        clear z0 z1 OB P
        generalize (wr.alloc (.cells #[.int .i64 kd, .int .u32 (id : Nat)] 39)) = W2 at Q2 d0 d1 ⊢
        generalize wr.heap.size = ob at d0 d1 ⊢
        obtain ⟨u0, u1, u2, u3, u4⟩ := Pw.cells Q2
        have ST := Aside.mk (step17 own W2 Q2.it.g Q2.it.t kd id (by decide) (by have := HL.it.1; omega) HID.it (by have := HL.it.2; omega))
        have HL3 : Aside ((stepM m kd id).last ≤ j + 1 ∧ (stepM m kd id).an.length ≤ j + 1) := ⟨by have h1 := stepM_last m kd id (by have := HL.it.1; omega); have h2 := stepM_an m kd id; have := HL.it; omega⟩
        obtain ⟨mn, hmn⟩ : ∃ mn, stepM m kd id = mn := ⟨_, rfl⟩
        rw [hmn] at ST HL3
        clear hmn
        go_upto_region 11 with (first | (go_at_call 14; refine ST.it.mono ?_; clear ST; rintro e w6 ⟨b1, m1, d1', b2, m2, d2, b3, m3, d3, own6, rfl, X6⟩) | fail)
        have Q7 : Aside (Pw A w own6 1 (w6.alloc (.cells #[.int .i64 mn.most, .int .i64 mn.last, .slice b1 m1 d1', .slice b2 m2 d2, .slice b3 m3 d3] 34)) (ptr p) mn (.slice b1 m1 d1') (.slice b2 m2 d2) (.slice b3 m3 d3) wb (rcel m (.slice a1 l1 c1) (.slice a2 l2 c2) (.slice a3 l3 c3))) := ⟨Pw.quiet ⟨Q2.it.g.sn X6.it.2 (by decide), X6.it.1, Q2.it.c.sn X6.it.2 (by decide)⟩ ((Keeps.refl _ _).alloc _)⟩
        have NB := Cells.new w6 34 (rcel mn (.slice b1 m1 d1') (.slice b2 m2 d2) (.slice b3 m3 d3))
        have n0 := NB.cell 0
        have n1 := NB.cell 1
        have n2 := NB.cell 2
        have n3 := NB.cell 3
        have n4 := NB.cell 4
        simp only [List.getElem?_cons_zero, List.getElem?_cons_succ, rcel] at n0 n1 n2 n3 n4
        have QF := Aside.mk (Q7.it.write (by decide))
        have o0 := Q7.it.c.1.cell 0
        have o1 := Q7.it.c.1.cell 1
        have o2 := Q7.it.c.1.cell 2
        have o3 := Q7.it.c.1.cell 3
        have o4 := Q7.it.c.1.cell 4
        have of := fun j => Q7.it.c.1.frozen j
        have of0 := of 0
        have of1 := of 1
        have of2 := of 2
        have of3 := of 3
        have of4 := of 4
        simp only [List.getElem?_cons_zero, List.getElem?_cons_succ, rcel] at o0 o1 o2 o3 o4
        unfold set5 at QF
        clear NB X6 Q7 Q2 u0 u1 u2 u3 u4 d0 d1 of
        generalize (w6.alloc (.cells #[.int .i64 mn.most, .int .i64 mn.last, .slice b1 m1 d1', .slice b2 m2 d2, .slice b3 m3 d3] 34)) = W7 at QF n0 n1 n2 n3 n4 o0 o1 o2 o3 o4 of0 of1 of2 of3 of4 ⊢
        generalize w6.heap.size = nb at n0 n1 n2 n3 n4 ⊢
        go_upto_region 12 with fail
        clear n0 n1 n2 n3 n4 o0 o1 o2 o3 o4 of0 of1 of2 of3 of4
        generalize (((((W7.setCell ⟨wb, 0, none⟩ (.int .i64 mn.most)).setCell ⟨wb, 1, none⟩ (.int .i64 mn.last)).setCell ⟨wb, 2, none⟩ (.slice b1 m1 d1')).setCell ⟨wb, 3, none⟩ (.slice b2 m2 d2)).setCell ⟨wb, 4, none⟩ (.slice b3 m3 d3)) = W8 at QF ⊢
        have Qd := Aside.mk (QF.it.quiet (Keeps.refl _ _).drew)
        obtain ⟨c3', hc3⟩ : ∃ c, Value.slice b3 m3 d3 = .slice b3 mn.ow.length c := by
          obtain ⟨a, c, h, _⟩ := QF.it.t.d.o.shape
          injection h with h1 h2 h3
          exact ⟨d3, by rw [h2]⟩
        injection hc3 with _ hm3 _
        have HM3 := Aside.mk hm3
        have e3 : ((m3 : Int) != m3) = false := by simp
        clear QF hm3
        go_region_held3 (fun w' => w'.cell? ⟨wb, 0, none⟩ = some (.int .i64 mn.most) ∧ w'.cell? ⟨wb, 1, none⟩ = some (.int .i64 mn.last) ∧ w'.cell? ⟨wb, 2, none⟩ = some (.slice b1 m1 d1') ∧ w'.cell? ⟨wb, 3, none⟩ = some (.slice b2 m2 d2) ∧ w'.cell? ⟨wb, 4, none⟩ = some (.slice b3 m3 d3)) (first | with_reducible exact Pw.cells (by with_reducible assumption)) (first
          | (go_at_call 10; with_reducible refine (pw_owed Q10).mono ?_; rintro e w11 ⟨rfl, Q11⟩; rw [← HM3.it])
          | (go_at_call 15; with_reducible refine (pw_sameW Q9 R9).mono ?_; rintro e w10 ⟨rfl, Q10⟩)
          | (go_at_call 11; with_reducible refine (pw_wait (by with_reducible assumption)).mono ?_; rintro e w9 ⟨wa, wl, wc, rfl, R9, Q9⟩)
          | fail)
        all_goals
          go_wp2_with fail
          go_roundw
          case rel => exact ⟨j + 1, mn, b1, m1, d1', b2, m2, d2, b3, m3, d3, own6, by go_num, by omega, HL3, Q11⟩
          case measure => simp [natOf]; omega

end Go.Proofs.YtnmpnajmhfonhaaDoor
