/-
  culvertlaw02's Step, kind by kind
-/
import Derived.Test.YtkmijhfimkcoiaaDoorRingStep0
namespace Go.Proofs.YtkmijhfimkcoiaaDoor
open Go.RowKit Rint

variable {B : Nat} {X : Nat → TypeId → List Value → Prop} {w0 w w' : World} {p : Nat} {R : Nat → Value} {C : Nat → Nat} {L : Nat → List Int} {V : Nat → Value} {own : Nat → Nat}

set_option maxHeartbeats 20000000 in
set_option maxRecDepth 100000 in
theorem step_k1 {A : Nat → Addr} (h : PlayAt B w0 X p R C L V own w) (hB : B = w0.heap.size) (hs : Sents 83 codeVars A w0) (op : OpV) (s : Value) (hr : ReadsOff Nowhere w0 s (iv op.items)) (hnil : NilOk s)
    (hsize : op.items.length * 8 ≤ 140737488351232) (q : op.kind = 1) :
    Calls Tryd.prog 6 #[.pointer (some ⟨p, 0, none⟩), .agg #[.int .i64 op.kind, .int .i64 op.at', .int .i64 op.n, s]] w fun e w' =>
      e = .returned (.bool true) ∧ ∃ R' C' L' V' own', PlayAt B w0 X p R' C' L' V' own' w' := by
  obtain ⟨sa, sc, rfl, hsc, _⟩ := id hr
  rw [iv_length] at hsc hr hnil ⊢
  obtain ⟨m, hm⟩ : ∃ m, m = op.items.length := ⟨_, rfl⟩
  rw [← hm] at hsc hr hnil hsize ⊢
  have HSZ : Aside _ := ⟨hsize⟩
  have SRC : Aside _ := ⟨hr⟩
  have NIL : Aside _ := ⟨hnil⟩
  have HM : Aside _ := ⟨hm⟩
  have HS : Aside _ := ⟨hs⟩
  have HB : Aside _ := ⟨hB⟩
  have PL : Aside _ := ⟨h⟩
  have Q : Aside _ := ⟨q⟩
  clear hr hnil hm hs hB h q
  go_enter Tryd.func6, Tryd.ntmps6
  go_upto_region 1 with fail
  obtain ⟨w1, hw1⟩ : ∃ w1, w1 = w.alloc (.cells [.int .i64 op.kind, .int .i64 op.at', .int .i64 op.n, .slice sa m sc].toArray 29) := ⟨_, rfl⟩
  have ew : w.alloc (.cells #[.int .i64 op.kind, .int .i64 op.at', .int .i64 op.n, .slice sa m sc] 29) = w1 := hw1.symm
  rw [ew]
  have ka : Keeps Nowhere w w1 := by rw [hw1]; exact (Keeps.refl _ _).alloc _
  obtain ⟨bo, hbo⟩ : ∃ bo, bo = w.heap.size := ⟨_, rfl⟩
  have C1 : Aside (CellsO (give own w.heap.size 5) 5 w1 bo 29 [.int .i64 op.kind, .int .i64 op.at', .int .i64 op.n, .slice sa m sc]) := by
    refine ⟨?_, ?_⟩
    · rw [hw1, hbo]; exact Cells.new w _ _
    · rw [hbo]; exact give_new (Nat.le_refl _)
  have P1 : Aside _ := ⟨PL.it.two.fresh ka 5⟩
  rw [← hbo]
  clear hw1 ew ka hbo
  have x1 : w1.cell? ⟨bo, 1, none⟩ = some (.int .i64 op.at') := by rw [C1.it.1.cell]; rfl
  go_cut [5] (fun x wx => (∃ i : Nat, i < 4 ∧ x = .int .i64 i) ∧ w1 = wx)
  · go_wp2
    go_meet
    obtain ⟨i, hi, e⟩ := idx_lt op.at'
    exact ⟨⟨i, hi, by rw [← e]⟩, rfl⟩
  obtain ⟨⟨i, hi, rfl⟩, rfl⟩ := hcut
  clear x1
  obtain ⟨c1, c2, c3⟩ := P1.it.one.at3 i hi
  have hrow := P1.it.row i hi
  obtain ⟨va, vc, hve, hvc, _⟩ := hrow.1
  rw [iv_length] at hve hvc
  obtain ⟨ml, hml⟩ : ∃ ml, ml = (L i).length := ⟨_, rfl⟩
  rw [← hml] at hve hvc
  rw [hve] at c3
  have VE : Aside _ := ⟨hve⟩
  have HML : Aside _ := ⟨hml⟩
  have CL := (P1.it.ring i hi).len
  rw [iv_length, ← hml] at CL
  clear hrow hve hml
  have hi0 : (0 : Int) ≤ (i : Int) := by omega
  have hi4 : (i : Int) < 4 := by omega
  go_upto_region 2 with fail
  go_cut [6, 7] (fun x6 x7 wx => x6 = R i ∧ ∃ bm, x7 = .pointer (some ⟨bm, 0, none⟩) ∧ Cells wx bm 32 [.int .i64 (C i), .slice va ml vc] ∧ w1.heap.size ≤ bm ∧ Keeps Nowhere w1 wx)
  · go_region_held_law (fun w' => w'.cell? ⟨p, i, none⟩ = some (R i) ∧ w'.cell? ⟨p, 4 + i * 2, none⟩ = some (.int .i64 (C i)) ∧ w'.cell? ⟨p, 4 + i * 2 + 1, none⟩ = some (.slice va ml vc)) (go_keep) (fail)
    all_goals
      go_wp2
      go_meet
      exact ⟨rfl, _, rfl, (Cells.new _ _ _).drew, Nat.le_refl _, ((Keeps.refl _ _).alloc _).drew⟩
  obtain ⟨rfl, bm, rfl, cb, hbm, kb⟩ := hcut
  obtain ⟨o2, ho2⟩ : ∃ o2, o2 = give (give own w.heap.size 5) w1.heap.size 5 := ⟨_, rfl⟩
  have P2 : Aside (Play2 B w0 X p R C C L L V o2 wc) := ⟨by rw [ho2]; exact P1.it.fresh kb 5⟩
  have CO : Aside (CellsO o2 5 wc bo 29 [.int .i64 op.kind, .int .i64 op.at', .int .i64 op.n, .slice sa m sc]) := ⟨by rw [ho2]; exact keepO (i := 0) C1.it (nowhere_any kb) (by decide) (fun k h => give_old h)⟩
  have CM : Aside (CellsO o2 5 wc bm 32 [.int .i64 (C i), .slice va ml vc]) := ⟨⟨cb, by rw [ho2]; exact give_new hbm⟩⟩
  have RV : Aside (ReadsO o2 (20 + i) wc (.slice va ml vc) (iv (L i))) := ⟨by rw [← VE.it]; exact P2.it.row i hi⟩
  have GR : Aside _ := ⟨P2.it.ground⟩
  have k0 : wc.cell? ⟨bo, 0, none⟩ = some (.int .i64 op.kind) := by rw [CO.it.1.cell]; rfl
  have k2 : wc.cell? ⟨bo, 2, none⟩ = some (.int .i64 op.n) := by rw [CO.it.1.cell]; rfl
  have k3 : wc.cell? ⟨bo, 3, none⟩ = some (.slice sa m sc) := by rw [CO.it.1.cell]; rfl
  obtain ⟨m0, m1⟩ := refCells cb
  have hl31 : (L i).length ≤ 2147483647 := by have := HML.it; omega
  clear cb hbm kb ho2 P1 C1 c1 c2 c3 PL
  have q := Q.it
  clear Q
  · obtain ⟨t, ht⟩ : ∃ t, t = Nat.min op.items.length (C i - (L i).length) := ⟨_, rfl⟩
    have RD := refPush_ok wc (C i) _ (L i) op.items _ RV.it.plain RV.it.2 ((GR.it.reads (i := 5) SRC.it HB.it (by decide)).mono (fun _ x _ => x.elim)) NIL.it (by rw [← HML.it]; exact CL.1) CL.2 (by rw [← HM.it]; omega) t ht
    have RDA : Aside _ := ⟨RD⟩
    have HT : Aside _ := ⟨ht⟩
    clear RD ht
    go_wp2_with fail
    refine RDA.it.mono ?_
    rintro e w4 ⟨v4, rfl, r4, n4, k4⟩
    obtain ⟨va4, vc4, hv4, hvc4, _⟩ := id r4
    obtain ⟨ml4, hml4⟩ : ∃ ml4, ml4 = (iv (L i ++ op.items.take (C i - (L i).length))).length := ⟨_, rfl⟩
    rw [← hml4] at hv4
    subst hv4
    obtain ⟨o4, ho4⟩ : ∃ o4, o4 = give o2 wc.heap.size (20 + i) := ⟨_, rfl⟩
    have P4 : Aside (Play2 B w0 X p R C C L L V o4 w4) := ⟨by rw [ho4]; exact P2.it.fresh k4 (20 + i)⟩
    have R4 : Aside (ReadsO o4 (20 + i) w4 (.slice va4 ml4 vc4) (iv (L i ++ op.items.take (C i - (L i).length)))) := ⟨by rw [ho4]; exact fresh_reads (20 + i) r4 n4⟩
    have CO4 : Aside (CellsO o4 5 w4 bo 29 [.int .i64 op.kind, .int .i64 op.at', .int .i64 op.n, .slice sa m sc]) := ⟨by rw [ho4]; exact keepO (i := 0) CO.it (nowhere_any k4) (by decide) (fun k h => give_old h)⟩
    clear r4 n4 k4 hml4 hvc4 ho4
    go_upto_region 14 with fail
    obtain ⟨w5, hw5⟩ : ∃ w5, w5 = w4.alloc (.cells [.int .i64 (C i), .slice va4 ml4 vc4].toArray 32) := ⟨_, rfl⟩
    have ew : w4.alloc (.cells #[.int .i64 (C i), .slice va4 ml4 vc4] 32) = w5 := hw5.symm
    rw [ew]
    have ka : Keeps Nowhere w4 w5 := by rw [hw5]; exact (Keeps.refl _ _).alloc _
    obtain ⟨b5, hb5⟩ : ∃ b5, b5 = w4.heap.size := ⟨_, rfl⟩
    have CB : Cells w5 b5 32 [.int .i64 (C i), .slice va4 ml4 vc4] := by rw [hw5, hb5]; exact Cells.new w4 _ _
    obtain ⟨o5, ho5⟩ : ∃ o5, o5 = give o4 w4.heap.size 5 := ⟨_, rfl⟩
    have P5 : Aside (Play2 B w0 X p R C C L L V o5 w5) := ⟨by rw [ho5]; exact P4.it.fresh ka 5⟩
    have R5 : Aside (ReadsO o5 (20 + i) w5 (.slice va4 ml4 vc4) (iv (L i ++ op.items.take (C i - (L i).length)))) := ⟨by rw [ho5]; exact R4.it.others (i := 0) (nowhere_any ka) (by omega) (fun k h => give_old h)⟩
    have CO5 : Aside (CellsO o5 5 w5 bo 29 [.int .i64 op.kind, .int .i64 op.at', .int .i64 op.n, .slice sa m sc]) := ⟨by rw [ho5]; exact keepO (i := 0) CO4.it (nowhere_any ka) (by decide) (fun k h => give_old h)⟩
    have hne : b5 ≠ p := by have := P4.it.cells.1.lt; omega
    obtain ⟨_, c2, c3⟩ := P5.it.one.at3 i hi
    rw [VE.it] at c3
    have f2 := P5.it.cells.1.frozen (4 + i * 2)
    have f3 := P5.it.cells.1.frozen (4 + i * 2 + 1)
    obtain ⟨z0, z1⟩ := refCells CB
    have KS : Aside (((w5.setCell ⟨p, 4 + i * 2, none⟩ (.int .i64 (C i))).setCell ⟨p, 4 + i * 2 + 1, none⟩ (.slice va4 ml4 vc4)).drew.cell? ⟨b5, 0, none⟩ = some (.int .i64 (C i)) ∧ ((w5.setCell ⟨p, 4 + i * 2, none⟩ (.int .i64 (C i))).setCell ⟨p, 4 + i * 2 + 1, none⟩ (.slice va4 ml4 vc4)).drew.cell? ⟨b5, 1, none⟩ = some (.slice va4 ml4 vc4)) := ⟨refCells ((CB.setOther _ _ hne).setOther _ _ hne).drew⟩
    rw [← hb5]
    clear hw5 ew ka hb5 CB ho5 P4 R4 CO4
    go_region_held_law (fun w' => w'.cell? ⟨b5, 0, none⟩ = some (.int .i64 (C i)) ∧ w'.cell? ⟨b5, 1, none⟩ = some (.slice va4 ml4 vc4)) (with_reducible first | exact ⟨drew_cell z0, drew_cell z1⟩ | exact KS.it) (fail)
    obtain ⟨w6, hw6⟩ : ∃ w6, w6 = ((w5.setCell ⟨p, 4 + i * 2, none⟩ (.int .i64 (C i))).setCell ⟨p, 4 + i * 2 + 1, none⟩ (.slice va4 ml4 vc4)).drew := ⟨_, rfl⟩
    have P6 : Aside (Play2 B w0 X p R C C L (upd L i (L i ++ op.items.take (C i - (L i).length))) (upd V i (.slice va4 ml4 vc4)) o5 w6) := ⟨by
      have := P5.it.setModel i hi (C i) _ _ R5.it
      rw [upd_self] at this
      rw [hw6]; exact this.quiet (Keeps.refl Nowhere _).drew⟩
    have kk6 : Keeps (fun k => o5 k = 7) w5 w6 := by
      rw [hw6]
      exact (((Keeps.refl _ _).setCell _ _ (fun _ => P5.it.cells.2)).setCell _ _ (fun _ => P5.it.cells.2)).drew
    have CO6 : Aside (CellsO o5 5 w6 bo 29 [.int .i64 op.kind, .int .i64 op.at', .int .i64 op.n, .slice sa m sc]) := ⟨keepO CO5.it kk6 (by decide) (fun _ _ => rfl)⟩
    try rw [← hw6]
    have j2 : w6.cell? ⟨bo, 2, none⟩ = some (.int .i64 op.n) := by rw [CO6.it.1.cell]; rfl
    have j3 : w6.cell? ⟨bo, 3, none⟩ = some (.slice sa m sc) := by rw [CO6.it.1.cell]; rfl
    clear hw6 kk6 c2 c3 f2 f3 z0 z1 P5 R5 CO5 KS
    have S6 : Aside (ReadsOff Nowhere w6 (.slice sa m sc) (iv op.items)) := ⟨(P6.it.ground.reads (i := 5) SRC.it HB.it (by decide)).mono (fun _ x _ => x.elim)⟩
    have HB8 : Aside ((iv op.items).length * 8 ≤ 140737488355328) := ⟨by rw [iv_length, ← HM.it]; omega⟩
    have H63 : Aside ((iv op.items).length ≤ maxLen) := ⟨by rw [iv_length, ← HM.it]; unfold maxLen; omega⟩
    have K6a : Aside (Keeps Nowhere w6 (w6.alloc (.cells #[] 3))) := ⟨(Keeps.refl _ _).alloc _⟩
    have OWN : Aside _ := ⟨owns_empty w6 3⟩
    have hlx : op.items.length ≤ 9223372036854775807 := by rw [← HM.it]; omega
    have hbo6 : bo < w6.heap.size := CO6.it.1.lt
    go_wp2_with (at_builtin; refine wpList_copyRow rfl (.tmp 101) (.tmp 103) 27 rfl 3 (.int .i64 0) 8 Tryd.underlying27 intInfo rfl w6 K6a.it w6.heap.size (Nat.le_refl _) OWN.it _ _ S6.it NIL.it (iv_one _) HB8.it H63.it rfl rfl ?_; intro v8 w8 o8 k8 kk8)
    have P8 : Aside (Play2 B w0 X p R C C L (upd L i (L i ++ op.items.take (C i - (L i).length))) (upd V i (.slice va4 ml4 vc4)) (give o5 w6.heap.size 5) w8) := ⟨P6.it.fresh kk8.it 5⟩
    have R8 := fresh_reads (own := o5) (w := w6) 5 (owns_reads o8.it).1 (owns_reads o8.it).2
    have PC := p2_push P8.it i hi v8 op.items (R8.1.mono (fun k h _ => by omega)) hlx
    rw [← HT.it] at PC
    refine PC.mono ?_
    rintro e w7 ⟨rfl, p7⟩
    have P7 : Aside _ := ⟨p7⟩
    clear p7 PC R8
    go_wp2
    go_ret
    exact ⟨rfl, _, _, _, _, _, P7.it.one⟩

set_option maxHeartbeats 20000000 in
set_option maxRecDepth 100000 in
theorem step_k2 {A : Nat → Addr} (h : PlayAt B w0 X p R C L V own w) (hB : B = w0.heap.size) (hs : Sents 83 codeVars A w0) (op : OpV) (s : Value) (hr : ReadsOff Nowhere w0 s (iv op.items)) (hnil : NilOk s)
    (hsize : op.items.length * 8 ≤ 140737488351232) (q : op.kind = 2) :
    Calls Tryd.prog 6 #[.pointer (some ⟨p, 0, none⟩), .agg #[.int .i64 op.kind, .int .i64 op.at', .int .i64 op.n, s]] w fun e w' =>
      e = .returned (.bool true) ∧ ∃ R' C' L' V' own', PlayAt B w0 X p R' C' L' V' own' w' := by
  obtain ⟨sa, sc, rfl, hsc, _⟩ := id hr
  rw [iv_length] at hsc hr hnil ⊢
  obtain ⟨m, hm⟩ : ∃ m, m = op.items.length := ⟨_, rfl⟩
  rw [← hm] at hsc hr hnil hsize ⊢
  have HSZ : Aside _ := ⟨hsize⟩
  have SRC : Aside _ := ⟨hr⟩
  have NIL : Aside _ := ⟨hnil⟩
  have HM : Aside _ := ⟨hm⟩
  have HS : Aside _ := ⟨hs⟩
  have HB : Aside _ := ⟨hB⟩
  have PL : Aside _ := ⟨h⟩
  have Q : Aside _ := ⟨q⟩
  clear hr hnil hm hs hB h q
  go_enter Tryd.func6, Tryd.ntmps6
  go_upto_region 1 with fail
  obtain ⟨w1, hw1⟩ : ∃ w1, w1 = w.alloc (.cells [.int .i64 op.kind, .int .i64 op.at', .int .i64 op.n, .slice sa m sc].toArray 29) := ⟨_, rfl⟩
  have ew : w.alloc (.cells #[.int .i64 op.kind, .int .i64 op.at', .int .i64 op.n, .slice sa m sc] 29) = w1 := hw1.symm
  rw [ew]
  have ka : Keeps Nowhere w w1 := by rw [hw1]; exact (Keeps.refl _ _).alloc _
  obtain ⟨bo, hbo⟩ : ∃ bo, bo = w.heap.size := ⟨_, rfl⟩
  have C1 : Aside (CellsO (give own w.heap.size 5) 5 w1 bo 29 [.int .i64 op.kind, .int .i64 op.at', .int .i64 op.n, .slice sa m sc]) := by
    refine ⟨?_, ?_⟩
    · rw [hw1, hbo]; exact Cells.new w _ _
    · rw [hbo]; exact give_new (Nat.le_refl _)
  have P1 : Aside _ := ⟨PL.it.two.fresh ka 5⟩
  rw [← hbo]
  clear hw1 ew ka hbo
  have x1 : w1.cell? ⟨bo, 1, none⟩ = some (.int .i64 op.at') := by rw [C1.it.1.cell]; rfl
  go_cut [5] (fun x wx => (∃ i : Nat, i < 4 ∧ x = .int .i64 i) ∧ w1 = wx)
  · go_wp2
    go_meet
    obtain ⟨i, hi, e⟩ := idx_lt op.at'
    exact ⟨⟨i, hi, by rw [← e]⟩, rfl⟩
  obtain ⟨⟨i, hi, rfl⟩, rfl⟩ := hcut
  clear x1
  obtain ⟨c1, c2, c3⟩ := P1.it.one.at3 i hi
  have hrow := P1.it.row i hi
  obtain ⟨va, vc, hve, hvc, _⟩ := hrow.1
  rw [iv_length] at hve hvc
  obtain ⟨ml, hml⟩ : ∃ ml, ml = (L i).length := ⟨_, rfl⟩
  rw [← hml] at hve hvc
  rw [hve] at c3
  have VE : Aside _ := ⟨hve⟩
  have HML : Aside _ := ⟨hml⟩
  have CL := (P1.it.ring i hi).len
  rw [iv_length, ← hml] at CL
  clear hrow hve hml
  have hi0 : (0 : Int) ≤ (i : Int) := by omega
  have hi4 : (i : Int) < 4 := by omega
  go_upto_region 2 with fail
  go_cut [6, 7] (fun x6 x7 wx => x6 = R i ∧ ∃ bm, x7 = .pointer (some ⟨bm, 0, none⟩) ∧ Cells wx bm 32 [.int .i64 (C i), .slice va ml vc] ∧ w1.heap.size ≤ bm ∧ Keeps Nowhere w1 wx)
  · go_region_held_law (fun w' => w'.cell? ⟨p, i, none⟩ = some (R i) ∧ w'.cell? ⟨p, 4 + i * 2, none⟩ = some (.int .i64 (C i)) ∧ w'.cell? ⟨p, 4 + i * 2 + 1, none⟩ = some (.slice va ml vc)) (go_keep) (fail)
    all_goals
      go_wp2
      go_meet
      exact ⟨rfl, _, rfl, (Cells.new _ _ _).drew, Nat.le_refl _, ((Keeps.refl _ _).alloc _).drew⟩
  obtain ⟨rfl, bm, rfl, cb, hbm, kb⟩ := hcut
  obtain ⟨o2, ho2⟩ : ∃ o2, o2 = give (give own w.heap.size 5) w1.heap.size 5 := ⟨_, rfl⟩
  have P2 : Aside (Play2 B w0 X p R C C L L V o2 wc) := ⟨by rw [ho2]; exact P1.it.fresh kb 5⟩
  have CO : Aside (CellsO o2 5 wc bo 29 [.int .i64 op.kind, .int .i64 op.at', .int .i64 op.n, .slice sa m sc]) := ⟨by rw [ho2]; exact keepO (i := 0) C1.it (nowhere_any kb) (by decide) (fun k h => give_old h)⟩
  have CM : Aside (CellsO o2 5 wc bm 32 [.int .i64 (C i), .slice va ml vc]) := ⟨⟨cb, by rw [ho2]; exact give_new hbm⟩⟩
  have RV : Aside (ReadsO o2 (20 + i) wc (.slice va ml vc) (iv (L i))) := ⟨by rw [← VE.it]; exact P2.it.row i hi⟩
  have GR : Aside _ := ⟨P2.it.ground⟩
  have k0 : wc.cell? ⟨bo, 0, none⟩ = some (.int .i64 op.kind) := by rw [CO.it.1.cell]; rfl
  have k2 : wc.cell? ⟨bo, 2, none⟩ = some (.int .i64 op.n) := by rw [CO.it.1.cell]; rfl
  have k3 : wc.cell? ⟨bo, 3, none⟩ = some (.slice sa m sc) := by rw [CO.it.1.cell]; rfl
  obtain ⟨m0, m1⟩ := refCells cb
  have hl31 : (L i).length ≤ 2147483647 := by have := HML.it; omega
  clear cb hbm kb ho2 P1 C1 c1 c2 c3 PL
  have q := Q.it
  clear Q
  · have RPA : Aside _ := ⟨refPeek_ok wc (C i) _ (L i) RV.it.plain RV.it.2 hl31 op.n⟩
    have hpl : ((L i).take op.n.toNat).length ≤ 9223372036854775806 := by simp; omega
    go_wp2_with fail
    refine RPA.it.mono ?_
    rintro e w4 ⟨v4, rfl, r4, n4, k4⟩
    obtain ⟨o4, ho4⟩ : ∃ o4, o4 = give o2 wc.heap.size 5 := ⟨_, rfl⟩
    have P4 : Aside (Play2 B w0 X p R C C L L V o4 w4) := ⟨by rw [ho4]; exact P2.it.fresh k4 5⟩
    have WT : Aside (ReadsO o4 5 w4 v4 (iv ((L i).take op.n.toNat))) := ⟨by rw [ho4]; exact fresh_reads 5 r4 n4⟩
    have RV4 : Aside (ReadsO o4 (20 + i) w4 (.slice va ml vc) (iv (L i))) := ⟨by rw [← VE.it]; exact P4.it.row i hi⟩
    have CO4 : Aside (CellsO o4 5 w4 bo 29 [.int .i64 op.kind, .int .i64 op.at', .int .i64 op.n, .slice sa m sc]) := ⟨by rw [ho4]; exact keepO (i := 0) CO.it (nowhere_any k4) (by decide) (fun k h => give_old h)⟩
    have CM4 : Aside (CellsO o4 5 w4 bm 32 [.int .i64 (C i), .slice va ml vc]) := ⟨by rw [ho4]; exact keepO (i := 0) CM.it (nowhere_any k4) (by decide) (fun k h => give_old h)⟩
    have s2 : w4.cell? ⟨bo, 2, none⟩ = some (.int .i64 op.n) := by rw [CO4.it.1.cell]; rfl
    obtain ⟨s0, s1⟩ := refCells CM4.it.1
    have RDA : Aside _ := ⟨refDrop_ok w4.drew (C i) _ (L i) (RV4.it.quiet (Keeps.refl Nowhere w4).drew).plain RV4.it.2 hl31 op.n⟩
    clear r4 n4 k4 ho4 RPA
    go_upto_region 18 with fail
    go_region_held_law (fun w' => w'.cell? ⟨bo, 2, none⟩ = some (.int .i64 op.n) ∧ w'.cell? ⟨bm, 0, none⟩ = some (.int .i64 (C i)) ∧ w'.cell? ⟨bm, 1, none⟩ = some (.slice va ml vc)) (with_reducible first | exact ⟨drew_cell s2, drew_cell s0, drew_cell s1⟩ | exact d5 | exact KS.it) ((go_at_call 14; refine RDA.it.mono ?_; rintro e w5 ⟨v5, rfl, r5, n5, k5⟩; obtain ⟨va5, vc5, hv5, _, _⟩ := id r5; obtain ⟨ml5, hml5⟩ : ∃ ml5, ml5 = (iv ((L i).drop op.n.toNat)).length := ⟨_, rfl⟩; rw [← hml5] at hv5; subst hv5; have P5 : Aside (Play2 B w0 X p R C C L L V (give o4 w4.drew.heap.size (20 + i)) w5) := ⟨(P4.it.quiet (Keeps.refl Nowhere w4).drew).fresh k5 (20 + i)⟩; have R5 : Aside (ReadsO (give o4 w4.drew.heap.size (20 + i)) (20 + i) w5 (.slice va5 ml5 vc5) (iv ((L i).drop op.n.toNat))) := ⟨fresh_reads (20 + i) r5 n5⟩; have CO5 : Aside (CellsO (give o4 w4.drew.heap.size (20 + i)) 5 w5 bo 29 [.int .i64 op.kind, .int .i64 op.at', .int .i64 op.n, .slice sa m sc]) := ⟨keepO (i := 0) (CO4.it.quiet (Keeps.refl Nowhere w4).drew) (nowhere_any k5) (by decide) (fun k h => give_old h)⟩; have CM5 : Aside (CellsO (give o4 w4.drew.heap.size (20 + i)) 5 w5 bm 32 [.int .i64 (C i), .slice va ml vc]) := ⟨keepO (i := 0) (CM4.it.quiet (Keeps.refl Nowhere w4).drew) (nowhere_any k5) (by decide) (fun k h => give_old h)⟩; have WT5 : Aside (ReadsO (give o4 w4.drew.heap.size (20 + i)) 5 w5 v4 (iv ((L i).take op.n.toNat))) := ⟨(WT.it.quiet (Keeps.refl Nowhere w4).drew).others (i := 0) (nowhere_any k5) (by decide) (fun k h => give_old h)⟩; have c25 := (P5.it.one.at3 i hi).2.1; have c35 := (P5.it.one.at3 i hi).2.2; rw [VE.it] at c35; have f25 := P5.it.cells.1.frozen (4 + i * 2); have f35 := P5.it.cells.1.frozen (4 + i * 2 + 1); have hbop : bo ≠ p := (fun e => by have h1 := CO5.it.2; have h2 := P5.it.cells.2; rw [e] at h1; omega); have hbmp : bm ≠ p := (fun e => by have h1 := CM5.it.2; have h2 := P5.it.cells.2; rw [e] at h1; omega); have d5 : w5.cell? ⟨bo, 2, none⟩ = some (.int .i64 op.n) ∧ w5.cell? ⟨bm, 0, none⟩ = some (.int .i64 (C i)) ∧ w5.cell? ⟨bm, 1, none⟩ = some (.slice va ml vc) := ⟨(CO5.it.1.cell 2).trans rfl, refCells CM5.it.1⟩; have KS : Aside (((w5.setCell ⟨p, 4 + i * 2, none⟩ (.int .i64 (C i))).setCell ⟨p, 4 + i * 2 + 1, none⟩ (.slice va5 ml5 vc5)).cell? ⟨bo, 2, none⟩ = some (.int .i64 op.n) ∧ ((w5.setCell ⟨p, 4 + i * 2, none⟩ (.int .i64 (C i))).setCell ⟨p, 4 + i * 2 + 1, none⟩ (.slice va5 ml5 vc5)).cell? ⟨bm, 0, none⟩ = some (.int .i64 (C i)) ∧ ((w5.setCell ⟨p, 4 + i * 2, none⟩ (.int .i64 (C i))).setCell ⟨p, 4 + i * 2 + 1, none⟩ (.slice va5 ml5 vc5)).cell? ⟨bm, 1, none⟩ = some (.slice va ml vc)) := ⟨⟨(((CO5.it.1.setOther _ _ hbop).setOther _ _ hbop).cell 2).trans rfl, refCells ((CM5.it.1.setOther _ _ hbmp).setOther _ _ hbmp)⟩⟩; clear r5 n5 k5 hml5))
    obtain ⟨w6, hw6⟩ : ∃ w6, w6 = (w5.setCell ⟨p, 4 + i * 2, none⟩ (.int .i64 (C i))).setCell ⟨p, 4 + i * 2 + 1, none⟩ (.slice va5 ml5 vc5) := ⟨_, rfl⟩
    have P6 : Aside (Play2 B w0 X p R C C L (upd L i ((L i).drop op.n.toNat)) (upd V i (.slice va5 ml5 vc5)) (give o4 w4.drew.heap.size (20 + i)) w6) := ⟨by
      have := P5.it.setModel i hi (C i) _ _ R5.it
      rw [upd_self] at this
      rw [hw6]; exact this⟩
    have kk6 : Keeps (fun k => give o4 w4.drew.heap.size (20 + i) k = 7) w5 w6 := by
      rw [hw6]
      exact ((Keeps.refl _ _).setCell _ _ (fun _ => P5.it.cells.2)).setCell _ _ (fun _ => P5.it.cells.2)
    have WT6 : Aside _ := ⟨WT5.it.others (own' := give o4 w4.drew.heap.size (20 + i)) kk6 (by decide) (fun _ _ => rfl)⟩
    have CO6 : Aside _ := ⟨keepO (own' := give o4 w4.drew.heap.size (20 + i)) CO5.it kk6 (by decide) (fun _ _ => rfl)⟩
    try rw [← hw6]
    have j2 : w6.cell? ⟨bo, 2, none⟩ = some (.int .i64 op.n) := by rw [CO6.it.1.cell]; rfl
    clear hw6 kk6 c25 c35 f25 f35 P5 R5 CO5 CM5 WT5 KS d5
    have PC : Aside _ := ⟨p2_pop P6.it i hi op.n⟩
    go_wp2_with fail
    refine PC.it.mono ?_
    rintro e w7 ⟨s7, own7, rfl, row7, p7, k7⟩
    have P7 : Aside _ := ⟨p7⟩
    have H7 : Aside _ := ⟨row7⟩
    have WT7 : Aside _ := ⟨WT6.it.others (own' := give o4 w4.drew.heap.size (20 + i)) k7 (by omega) (fun _ _ => rfl)⟩
    clear p7 row7 k7
    go_wp2_with fail
    refine (same_eq w7 s7 v4 ((L i).take op.n.toNat) (H7.it.reads (fun _ _ x => x)) WT7.it.plain hpl).mono ?_
    rintro e w8 ⟨rfl, k8⟩
    have P8 : Aside _ := ⟨P7.it.quiet k8⟩
    clear k8
    go_wp2
    go_ret
    exact ⟨rfl, _, _, _, _, _, P8.it.one⟩
end Go.Proofs.YtkmijhfimkcoiaaDoor
