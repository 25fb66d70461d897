/-
  culvertlaw02's Step, kind by kind
-/
import Derived.Test.YtkmijhfimkcoiaaDoorRingStep0
namespace Go.Proofs.YtkmijhfimkcoiaaDoor
open Go.RowKit Rint

variable {B : Nat} {X : Nat → TypeId → List Value → Prop} {w0 w w' : World} {p : Nat} {R : Nat → Value} {C : Nat → Nat} {L : Nat → List Int} {V : Nat → Value} {own : Nat → Nat}

set_option maxHeartbeats 20000000 in
set_option maxRecDepth 100000 in
theorem step_k3 {A : Nat → Addr} (h : PlayAt B w0 X p R C L V own w) (hB : B = w0.heap.size) (hs : Sents 83 codeVars A w0) (op : OpV) (s : Value) (hr : ReadsOff Nowhere w0 s (iv op.items)) (hnil : NilOk s)
    (hsize : op.items.length * 8 ≤ 140737488351232) (q : op.kind = 3) :
    Calls Tryd.prog 6 #[.pointer (some ⟨p, 0, none⟩), .agg #[.int .i64 op.kind, .int .i64 op.at', .int .i64 op.n, s]] w fun e w' =>
      e = .returned (.bool true) ∧ ∃ R' C' L' V' own', PlayAt B w0 X p R' C' L' V' own' w' := by
  obtain ⟨sa, sc, rfl, hsc, _⟩ := id hr
  rw [iv_length] at hsc hr hnil ⊢
  obtain ⟨m, hm⟩ : ∃ m, m = op.items.length := ⟨_, rfl⟩
  rw [← hm] at hsc hr hnil hsize ⊢
  have HSZ : Aside _ := ⟨hsize⟩
  have SRC : Aside _ := ⟨hr⟩
  have NIL : Aside _ := ⟨hnil⟩
  have HM : Aside _ := ⟨hm⟩
  have HS : Aside _ := ⟨hs⟩
  have HB : Aside _ := ⟨hB⟩
  have PL : Aside _ := ⟨h⟩
  have Q : Aside _ := ⟨q⟩
  clear hr hnil hm hs hB h q
  go_enter Tryd.func6, Tryd.ntmps6
  go_upto_region 1 with fail
  obtain ⟨w1, hw1⟩ : ∃ w1, w1 = w.alloc (.cells [.int .i64 op.kind, .int .i64 op.at', .int .i64 op.n, .slice sa m sc].toArray 29) := ⟨_, rfl⟩
  have ew : w.alloc (.cells #[.int .i64 op.kind, .int .i64 op.at', .int .i64 op.n, .slice sa m sc] 29) = w1 := hw1.symm
  rw [ew]
  have ka : Keeps Nowhere w w1 := by rw [hw1]; exact (Keeps.refl _ _).alloc _
  obtain ⟨bo, hbo⟩ : ∃ bo, bo = w.heap.size := ⟨_, rfl⟩
  have C1 : Aside (CellsO (give own w.heap.size 5) 5 w1 bo 29 [.int .i64 op.kind, .int .i64 op.at', .int .i64 op.n, .slice sa m sc]) := by
    refine ⟨?_, ?_⟩
    · rw [hw1, hbo]; exact Cells.new w _ _
    · rw [hbo]; exact give_new (Nat.le_refl _)
  have P1 : Aside _ := ⟨PL.it.two.fresh ka 5⟩
  rw [← hbo]
  clear hw1 ew ka hbo
  have x1 : w1.cell? ⟨bo, 1, none⟩ = some (.int .i64 op.at') := by rw [C1.it.1.cell]; rfl
  go_cut [5] (fun x wx => (∃ i : Nat, i < 4 ∧ x = .int .i64 i) ∧ w1 = wx)
  · go_wp2
    go_meet
    obtain ⟨i, hi, e⟩ := idx_lt op.at'
    exact ⟨⟨i, hi, by rw [← e]⟩, rfl⟩
  obtain ⟨⟨i, hi, rfl⟩, rfl⟩ := hcut
  clear x1
  obtain ⟨c1, c2, c3⟩ := P1.it.one.at3 i hi
  have hrow := P1.it.row i hi
  obtain ⟨va, vc, hve, hvc, _⟩ := hrow.1
  rw [iv_length] at hve hvc
  obtain ⟨ml, hml⟩ : ∃ ml, ml = (L i).length := ⟨_, rfl⟩
  rw [← hml] at hve hvc
  rw [hve] at c3
  have VE : Aside _ := ⟨hve⟩
  have HML : Aside _ := ⟨hml⟩
  have CL := (P1.it.ring i hi).len
  rw [iv_length, ← hml] at CL
  clear hrow hve hml
  have hi0 : (0 : Int) ≤ (i : Int) := by omega
  have hi4 : (i : Int) < 4 := by omega
  go_upto_region 2 with fail
  go_cut [6, 7] (fun x6 x7 wx => x6 = R i ∧ ∃ bm, x7 = .pointer (some ⟨bm, 0, none⟩) ∧ Cells wx bm 32 [.int .i64 (C i), .slice va ml vc] ∧ w1.heap.size ≤ bm ∧ Keeps Nowhere w1 wx)
  · go_region_held_law (fun w' => w'.cell? ⟨p, i, none⟩ = some (R i) ∧ w'.cell? ⟨p, 4 + i * 2, none⟩ = some (.int .i64 (C i)) ∧ w'.cell? ⟨p, 4 + i * 2 + 1, none⟩ = some (.slice va ml vc)) (go_keep) (fail)
    all_goals
      go_wp2
      go_meet
      exact ⟨rfl, _, rfl, (Cells.new _ _ _).drew, Nat.le_refl _, ((Keeps.refl _ _).alloc _).drew⟩
  obtain ⟨rfl, bm, rfl, cb, hbm, kb⟩ := hcut
  obtain ⟨o2, ho2⟩ : ∃ o2, o2 = give (give own w.heap.size 5) w1.heap.size 5 := ⟨_, rfl⟩
  have P2 : Aside (Play2 B w0 X p R C C L L V o2 wc) := ⟨by rw [ho2]; exact P1.it.fresh kb 5⟩
  have CO : Aside (CellsO o2 5 wc bo 29 [.int .i64 op.kind, .int .i64 op.at', .int .i64 op.n, .slice sa m sc]) := ⟨by rw [ho2]; exact keepO (i := 0) C1.it (nowhere_any kb) (by decide) (fun k h => give_old h)⟩
  have CM : Aside (CellsO o2 5 wc bm 32 [.int .i64 (C i), .slice va ml vc]) := ⟨⟨cb, by rw [ho2]; exact give_new hbm⟩⟩
  have RV : Aside (ReadsO o2 (20 + i) wc (.slice va ml vc) (iv (L i))) := ⟨by rw [← VE.it]; exact P2.it.row i hi⟩
  have GR : Aside _ := ⟨P2.it.ground⟩
  have k0 : wc.cell? ⟨bo, 0, none⟩ = some (.int .i64 op.kind) := by rw [CO.it.1.cell]; rfl
  have k2 : wc.cell? ⟨bo, 2, none⟩ = some (.int .i64 op.n) := by rw [CO.it.1.cell]; rfl
  have k3 : wc.cell? ⟨bo, 3, none⟩ = some (.slice sa m sc) := by rw [CO.it.1.cell]; rfl
  obtain ⟨m0, m1⟩ := refCells cb
  have hl31 : (L i).length ≤ 2147483647 := by have := HML.it; omega
  clear cb hbm kb ho2 P1 C1 c1 c2 c3 PL
  have q := Q.it
  clear Q
  · obtain ⟨cnt, hcnt⟩ : ∃ cnt, cnt = Nat.min op.n.toNat (L i).length := ⟨_, rfl⟩
    have RD := refDrop_ok wc (C i) _ (L i) RV.it.plain RV.it.2 hl31 op.n
    rw [← hcnt] at RD
    have RDA : Aside _ := ⟨RD⟩
    have CNT : Aside _ := ⟨hcnt⟩
    clear RD hcnt
    go_wp2_with fail
    refine RDA.it.mono ?_
    rintro e w4 ⟨v4, rfl, r4, n4, k4⟩
    obtain ⟨va4, vc4, hv4, hvc4, _⟩ := id r4
    obtain ⟨ml4, hml4⟩ : ∃ ml4, ml4 = (iv ((L i).drop op.n.toNat)).length := ⟨_, rfl⟩
    rw [← hml4] at hv4
    subst hv4
    obtain ⟨o4, ho4⟩ : ∃ o4, o4 = give o2 wc.heap.size (20 + i) := ⟨_, rfl⟩
    have P4 : Aside (Play2 B w0 X p R C C L L V o4 w4) := ⟨by rw [ho4]; exact P2.it.fresh k4 (20 + i)⟩
    have R4 : Aside (ReadsO o4 (20 + i) w4 (.slice va4 ml4 vc4) (iv ((L i).drop op.n.toNat))) := ⟨by rw [ho4]; exact fresh_reads (20 + i) r4 n4⟩
    have CO4 : Aside (CellsO o4 5 w4 bo 29 [.int .i64 op.kind, .int .i64 op.at', .int .i64 op.n, .slice sa m sc]) := ⟨by rw [ho4]; exact keepO (i := 0) CO.it (nowhere_any k4) (by decide) (fun k h => give_old h)⟩
    clear r4 n4 k4 hml4 hvc4 ho4
    go_upto_region 22 with fail
    obtain ⟨w5, hw5⟩ : ∃ w5, w5 = w4.alloc (.cells [.int .i64 (C i), .slice va4 ml4 vc4].toArray 32) := ⟨_, rfl⟩
    have ew : w4.alloc (.cells #[.int .i64 (C i), .slice va4 ml4 vc4] 32) = w5 := hw5.symm
    rw [ew]
    have ka : Keeps Nowhere w4 w5 := by rw [hw5]; exact (Keeps.refl _ _).alloc _
    obtain ⟨b5, hb5⟩ : ∃ b5, b5 = w4.heap.size := ⟨_, rfl⟩
    have CB : Cells w5 b5 32 [.int .i64 (C i), .slice va4 ml4 vc4] := by rw [hw5, hb5]; exact Cells.new w4 _ _
    obtain ⟨o5, ho5⟩ : ∃ o5, o5 = give o4 w4.heap.size 5 := ⟨_, rfl⟩
    have P5 : Aside (Play2 B w0 X p R C C L L V o5 w5) := ⟨by rw [ho5]; exact P4.it.fresh ka 5⟩
    have R5 : Aside (ReadsO o5 (20 + i) w5 (.slice va4 ml4 vc4) (iv ((L i).drop op.n.toNat))) := ⟨by rw [ho5]; exact R4.it.others (i := 0) (nowhere_any ka) (by omega) (fun k h => give_old h)⟩
    have CO5 : Aside (CellsO o5 5 w5 bo 29 [.int .i64 op.kind, .int .i64 op.at', .int .i64 op.n, .slice sa m sc]) := ⟨by rw [ho5]; exact keepO (i := 0) CO4.it (nowhere_any ka) (by decide) (fun k h => give_old h)⟩
    have hne : b5 ≠ p := by have := P4.it.cells.1.lt; omega
    obtain ⟨_, c2, c3⟩ := P5.it.one.at3 i hi
    rw [VE.it] at c3
    have f2 := P5.it.cells.1.frozen (4 + i * 2)
    have f3 := P5.it.cells.1.frozen (4 + i * 2 + 1)
    obtain ⟨z0, z1⟩ := refCells CB
    have KS : Aside (((w5.setCell ⟨p, 4 + i * 2, none⟩ (.int .i64 (C i))).setCell ⟨p, 4 + i * 2 + 1, none⟩ (.slice va4 ml4 vc4)).drew.cell? ⟨b5, 0, none⟩ = some (.int .i64 (C i)) ∧ ((w5.setCell ⟨p, 4 + i * 2, none⟩ (.int .i64 (C i))).setCell ⟨p, 4 + i * 2 + 1, none⟩ (.slice va4 ml4 vc4)).drew.cell? ⟨b5, 1, none⟩ = some (.slice va4 ml4 vc4)) := ⟨refCells ((CB.setOther _ _ hne).setOther _ _ hne).drew⟩
    rw [← hb5]
    clear hw5 ew ka hb5 CB ho5 P4 R4 CO4
    go_region_held_law (fun w' => w'.cell? ⟨b5, 0, none⟩ = some (.int .i64 (C i)) ∧ w'.cell? ⟨b5, 1, none⟩ = some (.slice va4 ml4 vc4)) (with_reducible first | exact ⟨drew_cell z0, drew_cell z1⟩ | exact KS.it) (fail)
    obtain ⟨w6, hw6⟩ : ∃ w6, w6 = ((w5.setCell ⟨p, 4 + i * 2, none⟩ (.int .i64 (C i))).setCell ⟨p, 4 + i * 2 + 1, none⟩ (.slice va4 ml4 vc4)).drew := ⟨_, rfl⟩
    have P6 : Aside (Play2 B w0 X p R C C L (upd L i ((L i).drop op.n.toNat)) (upd V i (.slice va4 ml4 vc4)) o5 w6) := ⟨by
      have := P5.it.setModel i hi (C i) _ _ R5.it
      rw [upd_self] at this
      rw [hw6]; exact this.quiet (Keeps.refl Nowhere _).drew⟩
    have kk6 : Keeps (fun k => o5 k = 7) w5 w6 := by
      rw [hw6]
      exact (((Keeps.refl _ _).setCell _ _ (fun _ => P5.it.cells.2)).setCell _ _ (fun _ => P5.it.cells.2)).drew
    have CO6 : Aside (CellsO o5 5 w6 bo 29 [.int .i64 op.kind, .int .i64 op.at', .int .i64 op.n, .slice sa m sc]) := ⟨keepO CO5.it kk6 (by decide) (fun _ _ => rfl)⟩
    try rw [← hw6]
    have j2 : w6.cell? ⟨bo, 2, none⟩ = some (.int .i64 op.n) := by rw [CO6.it.1.cell]; rfl
    have j3 : w6.cell? ⟨bo, 3, none⟩ = some (.slice sa m sc) := by rw [CO6.it.1.cell]; rfl
    clear hw6 kk6 c2 c3 f2 f3 z0 z1 P5 R5 CO5 KS
    have PC := p2_drop P6.it i hi op.n
    rw [← CNT.it] at PC
    have PCA : Aside _ := ⟨PC⟩
    clear PC
    go_wp2_with fail
    refine PCA.it.mono ?_
    rintro e w7 ⟨rfl, p7⟩
    have P7 : Aside _ := ⟨p7⟩
    clear p7
    go_wp2
    go_ret
    exact ⟨rfl, _, _, _, _, _, P7.it.one⟩

set_option maxHeartbeats 20000000 in
set_option maxRecDepth 100000 in
theorem step_k4 {A : Nat → Addr} (h : PlayAt B w0 X p R C L V own w) (hB : B = w0.heap.size) (hs : Sents 83 codeVars A w0) (op : OpV) (s : Value) (hr : ReadsOff Nowhere w0 s (iv op.items)) (hnil : NilOk s)
    (hsize : op.items.length * 8 ≤ 140737488351232) (q : op.kind = 4) :
    Calls Tryd.prog 6 #[.pointer (some ⟨p, 0, none⟩), .agg #[.int .i64 op.kind, .int .i64 op.at', .int .i64 op.n, s]] w fun e w' =>
      e = .returned (.bool true) ∧ ∃ R' C' L' V' own', PlayAt B w0 X p R' C' L' V' own' w' := by
  obtain ⟨sa, sc, rfl, hsc, _⟩ := id hr
  rw [iv_length] at hsc hr hnil ⊢
  obtain ⟨m, hm⟩ : ∃ m, m = op.items.length := ⟨_, rfl⟩
  rw [← hm] at hsc hr hnil hsize ⊢
  have HSZ : Aside _ := ⟨hsize⟩
  have SRC : Aside _ := ⟨hr⟩
  have NIL : Aside _ := ⟨hnil⟩
  have HM : Aside _ := ⟨hm⟩
  have HS : Aside _ := ⟨hs⟩
  have HB : Aside _ := ⟨hB⟩
  have PL : Aside _ := ⟨h⟩
  have Q : Aside _ := ⟨q⟩
  clear hr hnil hm hs hB h q
  go_enter Tryd.func6, Tryd.ntmps6
  go_upto_region 1 with fail
  obtain ⟨w1, hw1⟩ : ∃ w1, w1 = w.alloc (.cells [.int .i64 op.kind, .int .i64 op.at', .int .i64 op.n, .slice sa m sc].toArray 29) := ⟨_, rfl⟩
  have ew : w.alloc (.cells #[.int .i64 op.kind, .int .i64 op.at', .int .i64 op.n, .slice sa m sc] 29) = w1 := hw1.symm
  rw [ew]
  have ka : Keeps Nowhere w w1 := by rw [hw1]; exact (Keeps.refl _ _).alloc _
  obtain ⟨bo, hbo⟩ : ∃ bo, bo = w.heap.size := ⟨_, rfl⟩
  have C1 : Aside (CellsO (give own w.heap.size 5) 5 w1 bo 29 [.int .i64 op.kind, .int .i64 op.at', .int .i64 op.n, .slice sa m sc]) := by
    refine ⟨?_, ?_⟩
    · rw [hw1, hbo]; exact Cells.new w _ _
    · rw [hbo]; exact give_new (Nat.le_refl _)
  have P1 : Aside _ := ⟨PL.it.two.fresh ka 5⟩
  rw [← hbo]
  clear hw1 ew ka hbo
  have x1 : w1.cell? ⟨bo, 1, none⟩ = some (.int .i64 op.at') := by rw [C1.it.1.cell]; rfl
  go_cut [5] (fun x wx => (∃ i : Nat, i < 4 ∧ x = .int .i64 i) ∧ w1 = wx)
  · go_wp2
    go_meet
    obtain ⟨i, hi, e⟩ := idx_lt op.at'
    exact ⟨⟨i, hi, by rw [← e]⟩, rfl⟩
  obtain ⟨⟨i, hi, rfl⟩, rfl⟩ := hcut
  clear x1
  obtain ⟨c1, c2, c3⟩ := P1.it.one.at3 i hi
  have hrow := P1.it.row i hi
  obtain ⟨va, vc, hve, hvc, _⟩ := hrow.1
  rw [iv_length] at hve hvc
  obtain ⟨ml, hml⟩ : ∃ ml, ml = (L i).length := ⟨_, rfl⟩
  rw [← hml] at hve hvc
  rw [hve] at c3
  have VE : Aside _ := ⟨hve⟩
  have HML : Aside _ := ⟨hml⟩
  have CL := (P1.it.ring i hi).len
  rw [iv_length, ← hml] at CL
  clear hrow hve hml
  have hi0 : (0 : Int) ≤ (i : Int) := by omega
  have hi4 : (i : Int) < 4 := by omega
  go_upto_region 2 with fail
  go_cut [6, 7] (fun x6 x7 wx => x6 = R i ∧ ∃ bm, x7 = .pointer (some ⟨bm, 0, none⟩) ∧ Cells wx bm 32 [.int .i64 (C i), .slice va ml vc] ∧ w1.heap.size ≤ bm ∧ Keeps Nowhere w1 wx)
  · go_region_held_law (fun w' => w'.cell? ⟨p, i, none⟩ = some (R i) ∧ w'.cell? ⟨p, 4 + i * 2, none⟩ = some (.int .i64 (C i)) ∧ w'.cell? ⟨p, 4 + i * 2 + 1, none⟩ = some (.slice va ml vc)) (go_keep) (fail)
    all_goals
      go_wp2
      go_meet
      exact ⟨rfl, _, rfl, (Cells.new _ _ _).drew, Nat.le_refl _, ((Keeps.refl _ _).alloc _).drew⟩
  obtain ⟨rfl, bm, rfl, cb, hbm, kb⟩ := hcut
  obtain ⟨o2, ho2⟩ : ∃ o2, o2 = give (give own w.heap.size 5) w1.heap.size 5 := ⟨_, rfl⟩
  have P2 : Aside (Play2 B w0 X p R C C L L V o2 wc) := ⟨by rw [ho2]; exact P1.it.fresh kb 5⟩
  have CO : Aside (CellsO o2 5 wc bo 29 [.int .i64 op.kind, .int .i64 op.at', .int .i64 op.n, .slice sa m sc]) := ⟨by rw [ho2]; exact keepO (i := 0) C1.it (nowhere_any kb) (by decide) (fun k h => give_old h)⟩
  have CM : Aside (CellsO o2 5 wc bm 32 [.int .i64 (C i), .slice va ml vc]) := ⟨⟨cb, by rw [ho2]; exact give_new hbm⟩⟩
  have RV : Aside (ReadsO o2 (20 + i) wc (.slice va ml vc) (iv (L i))) := ⟨by rw [← VE.it]; exact P2.it.row i hi⟩
  have GR : Aside _ := ⟨P2.it.ground⟩
  have k0 : wc.cell? ⟨bo, 0, none⟩ = some (.int .i64 op.kind) := by rw [CO.it.1.cell]; rfl
  have k2 : wc.cell? ⟨bo, 2, none⟩ = some (.int .i64 op.n) := by rw [CO.it.1.cell]; rfl
  have k3 : wc.cell? ⟨bo, 3, none⟩ = some (.slice sa m sc) := by rw [CO.it.1.cell]; rfl
  obtain ⟨m0, m1⟩ := refCells cb
  have hl31 : (L i).length ≤ 2147483647 := by have := HML.it; omega
  clear cb hbm kb ho2 P1 C1 c1 c2 c3 PL
  have q := Q.it
  clear Q
  · have RD := refDrop_ok wc (C i) _ (L i) RV.it.plain RV.it.2 hl31 (ml : Int)
    rw [Int.toNat_natCast, show Nat.min ml (L i).length = ml by rw [HML.it]; exact Nat.min_self _, show (L i).drop ml = [] by rw [HML.it, List.drop_length]] at RD
    have RDA : Aside _ := ⟨RD⟩
    clear RD
    go_wp2_with fail
    refine RDA.it.mono ?_
    rintro e w4 ⟨v4, rfl, r4, n4, k4⟩
    obtain ⟨va4, vc4, hv4, hvc4, _⟩ := id r4
    obtain ⟨ml4, hml4⟩ : ∃ ml4, ml4 = (iv (([] : List Int))).length := ⟨_, rfl⟩
    rw [← hml4] at hv4
    subst hv4
    obtain ⟨o4, ho4⟩ : ∃ o4, o4 = give o2 wc.heap.size (20 + i) := ⟨_, rfl⟩
    have P4 : Aside (Play2 B w0 X p R C C L L V o4 w4) := ⟨by rw [ho4]; exact P2.it.fresh k4 (20 + i)⟩
    have R4 : Aside (ReadsO o4 (20 + i) w4 (.slice va4 ml4 vc4) (iv (([] : List Int)))) := ⟨by rw [ho4]; exact fresh_reads (20 + i) r4 n4⟩
    have CO4 : Aside (CellsO o4 5 w4 bo 29 [.int .i64 op.kind, .int .i64 op.at', .int .i64 op.n, .slice sa m sc]) := ⟨by rw [ho4]; exact keepO (i := 0) CO.it (nowhere_any k4) (by decide) (fun k h => give_old h)⟩
    clear r4 n4 k4 hml4 hvc4 ho4
    go_upto_region 26 with fail
    obtain ⟨w5, hw5⟩ : ∃ w5, w5 = w4.alloc (.cells [.int .i64 (C i), .slice va4 ml4 vc4].toArray 32) := ⟨_, rfl⟩
    have ew : w4.alloc (.cells #[.int .i64 (C i), .slice va4 ml4 vc4] 32) = w5 := hw5.symm
    rw [ew]
    have ka : Keeps Nowhere w4 w5 := by rw [hw5]; exact (Keeps.refl _ _).alloc _
    obtain ⟨b5, hb5⟩ : ∃ b5, b5 = w4.heap.size := ⟨_, rfl⟩
    have CB : Cells w5 b5 32 [.int .i64 (C i), .slice va4 ml4 vc4] := by rw [hw5, hb5]; exact Cells.new w4 _ _
    obtain ⟨o5, ho5⟩ : ∃ o5, o5 = give o4 w4.heap.size 5 := ⟨_, rfl⟩
    have P5 : Aside (Play2 B w0 X p R C C L L V o5 w5) := ⟨by rw [ho5]; exact P4.it.fresh ka 5⟩
    have R5 : Aside (ReadsO o5 (20 + i) w5 (.slice va4 ml4 vc4) (iv (([] : List Int)))) := ⟨by rw [ho5]; exact R4.it.others (i := 0) (nowhere_any ka) (by omega) (fun k h => give_old h)⟩
    have CO5 : Aside (CellsO o5 5 w5 bo 29 [.int .i64 op.kind, .int .i64 op.at', .int .i64 op.n, .slice sa m sc]) := ⟨by rw [ho5]; exact keepO (i := 0) CO4.it (nowhere_any ka) (by decide) (fun k h => give_old h)⟩
    have hne : b5 ≠ p := by have := P4.it.cells.1.lt; omega
    obtain ⟨_, c2, c3⟩ := P5.it.one.at3 i hi
    rw [VE.it] at c3
    have f2 := P5.it.cells.1.frozen (4 + i * 2)
    have f3 := P5.it.cells.1.frozen (4 + i * 2 + 1)
    obtain ⟨z0, z1⟩ := refCells CB
    have KS : Aside (((w5.setCell ⟨p, 4 + i * 2, none⟩ (.int .i64 (C i))).setCell ⟨p, 4 + i * 2 + 1, none⟩ (.slice va4 ml4 vc4)).drew.cell? ⟨b5, 0, none⟩ = some (.int .i64 (C i)) ∧ ((w5.setCell ⟨p, 4 + i * 2, none⟩ (.int .i64 (C i))).setCell ⟨p, 4 + i * 2 + 1, none⟩ (.slice va4 ml4 vc4)).drew.cell? ⟨b5, 1, none⟩ = some (.slice va4 ml4 vc4)) := ⟨refCells ((CB.setOther _ _ hne).setOther _ _ hne).drew⟩
    rw [← hb5]
    clear hw5 ew ka hb5 CB ho5 P4 R4 CO4
    go_region_held_law (fun w' => w'.cell? ⟨b5, 0, none⟩ = some (.int .i64 (C i)) ∧ w'.cell? ⟨b5, 1, none⟩ = some (.slice va4 ml4 vc4)) (with_reducible first | exact ⟨drew_cell z0, drew_cell z1⟩ | exact KS.it) (fail)
    obtain ⟨w6, hw6⟩ : ∃ w6, w6 = ((w5.setCell ⟨p, 4 + i * 2, none⟩ (.int .i64 (C i))).setCell ⟨p, 4 + i * 2 + 1, none⟩ (.slice va4 ml4 vc4)).drew := ⟨_, rfl⟩
    have P6 : Aside (Play2 B w0 X p R C C L (upd L i (([] : List Int))) (upd V i (.slice va4 ml4 vc4)) o5 w6) := ⟨by
      have := P5.it.setModel i hi (C i) _ _ R5.it
      rw [upd_self] at this
      rw [hw6]; exact this.quiet (Keeps.refl Nowhere _).drew⟩
    have kk6 : Keeps (fun k => o5 k = 7) w5 w6 := by
      rw [hw6]
      exact (((Keeps.refl _ _).setCell _ _ (fun _ => P5.it.cells.2)).setCell _ _ (fun _ => P5.it.cells.2)).drew
    have CO6 : Aside (CellsO o5 5 w6 bo 29 [.int .i64 op.kind, .int .i64 op.at', .int .i64 op.n, .slice sa m sc]) := ⟨keepO CO5.it kk6 (by decide) (fun _ _ => rfl)⟩
    try rw [← hw6]
    have j2 : w6.cell? ⟨bo, 2, none⟩ = some (.int .i64 op.n) := by rw [CO6.it.1.cell]; rfl
    have j3 : w6.cell? ⟨bo, 3, none⟩ = some (.slice sa m sc) := by rw [CO6.it.1.cell]; rfl
    clear hw6 kk6 c2 c3 f2 f3 z0 z1 P5 R5 CO5 KS
    have PC := p2_clear P6.it i hi
    rw [← HML.it] at PC
    have PCA : Aside _ := ⟨PC⟩
    clear PC
    go_wp2_with fail
    refine PCA.it.mono ?_
    rintro e w7 ⟨rfl, p7⟩
    have P7 : Aside _ := ⟨p7⟩
    clear p7
    go_wp2
    go_ret
    exact ⟨rfl, _, _, _, _, _, P7.it.one⟩
end Go.Proofs.YtkmijhfimkcoiaaDoor
