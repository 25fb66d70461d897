/-
  culvertlaw02's Step, kind by kind
-/
import Derived.Test.YtkmijhfimkcoiaaDoorRingStep0
namespace Go.Proofs.YtkmijhfimkcoiaaDoor
open Go.RowKit Rint

variable {B : Nat} {X : Nat → TypeId → List Value → Prop} {w0 w w' : World} {p : Nat} {R : Nat → Value} {C : Nat → Nat} {L : Nat → List Int} {V : Nat → Value} {own : Nat → Nat}

set_option maxHeartbeats 20000000 in
set_option maxRecDepth 100000 in
theorem step_k0 {A : Nat → Addr} (h : PlayAt B w0 X p R C L V own w) (hB : B = w0.heap.size) (hs : Sents 83 codeVars A w0) (op : OpV) (s : Value) (hr : ReadsOff Nowhere w0 s (iv op.items)) (hnil : NilOk s)
    (hsize : op.items.length * 8 ≤ 140737488351232) (q : op.kind = 0) :
    Calls Tryd.prog 6 #[.pointer (some ⟨p, 0, none⟩), .agg #[.int .i64 op.kind, .int .i64 op.at', .int .i64 op.n, s]] w fun e w' =>
      e = .returned (.bool true) ∧ ∃ R' C' L' V' own', PlayAt B w0 X p R' C' L' V' own' w' := by
  obtain ⟨sa, sc, rfl, hsc, _⟩ := id hr
  rw [iv_length] at hsc hr hnil ⊢
  obtain ⟨m, hm⟩ : ∃ m, m = op.items.length := ⟨_, rfl⟩
  rw [← hm] at hsc hr hnil hsize ⊢
  have HSZ : Aside _ := ⟨hsize⟩
  have SRC : Aside _ := ⟨hr⟩
  have NIL : Aside _ := ⟨hnil⟩
  have HM : Aside _ := ⟨hm⟩
  have HS : Aside _ := ⟨hs⟩
  have HB : Aside _ := ⟨hB⟩
  have PL : Aside _ := ⟨h⟩
  have Q : Aside _ := ⟨q⟩
  clear hr hnil hm hs hB h q
  go_enter Tryd.func6, Tryd.ntmps6
  go_upto_region 1 with fail
  obtain ⟨w1, hw1⟩ : ∃ w1, w1 = w.alloc (.cells [.int .i64 op.kind, .int .i64 op.at', .int .i64 op.n, .slice sa m sc].toArray 29) := ⟨_, rfl⟩
  have ew : w.alloc (.cells #[.int .i64 op.kind, .int .i64 op.at', .int .i64 op.n, .slice sa m sc] 29) = w1 := hw1.symm
  rw [ew]
  have ka : Keeps Nowhere w w1 := by rw [hw1]; exact (Keeps.refl _ _).alloc _
  obtain ⟨bo, hbo⟩ : ∃ bo, bo = w.heap.size := ⟨_, rfl⟩
  have C1 : Aside (CellsO (give own w.heap.size 5) 5 w1 bo 29 [.int .i64 op.kind, .int .i64 op.at', .int .i64 op.n, .slice sa m sc]) := by
    refine ⟨?_, ?_⟩
    · rw [hw1, hbo]; exact Cells.new w _ _
    · rw [hbo]; exact give_new (Nat.le_refl _)
  have P1 : Aside _ := ⟨PL.it.two.fresh ka 5⟩
  rw [← hbo]
  clear hw1 ew ka hbo
  have x1 : w1.cell? ⟨bo, 1, none⟩ = some (.int .i64 op.at') := by rw [C1.it.1.cell]; rfl
  go_cut [5] (fun x wx => (∃ i : Nat, i < 4 ∧ x = .int .i64 i) ∧ w1 = wx)
  · go_wp2
    go_meet
    obtain ⟨i, hi, e⟩ := idx_lt op.at'
    exact ⟨⟨i, hi, by rw [← e]⟩, rfl⟩
  obtain ⟨⟨i, hi, rfl⟩, rfl⟩ := hcut
  clear x1
  obtain ⟨c1, c2, c3⟩ := P1.it.one.at3 i hi
  have hrow := P1.it.row i hi
  obtain ⟨va, vc, hve, hvc, _⟩ := hrow.1
  rw [iv_length] at hve hvc
  obtain ⟨ml, hml⟩ : ∃ ml, ml = (L i).length := ⟨_, rfl⟩
  rw [← hml] at hve hvc
  rw [hve] at c3
  have VE : Aside _ := ⟨hve⟩
  have HML : Aside _ := ⟨hml⟩
  have CL := (P1.it.ring i hi).len
  rw [iv_length, ← hml] at CL
  clear hrow hve hml
  have hi0 : (0 : Int) ≤ (i : Int) := by omega
  have hi4 : (i : Int) < 4 := by omega
  go_upto_region 2 with fail
  go_cut [6, 7] (fun x6 x7 wx => x6 = R i ∧ ∃ bm, x7 = .pointer (some ⟨bm, 0, none⟩) ∧ Cells wx bm 32 [.int .i64 (C i), .slice va ml vc] ∧ w1.heap.size ≤ bm ∧ Keeps Nowhere w1 wx)
  · go_region_held_law (fun w' => w'.cell? ⟨p, i, none⟩ = some (R i) ∧ w'.cell? ⟨p, 4 + i * 2, none⟩ = some (.int .i64 (C i)) ∧ w'.cell? ⟨p, 4 + i * 2 + 1, none⟩ = some (.slice va ml vc)) (go_keep) (fail)
    all_goals
      go_wp2
      go_meet
      exact ⟨rfl, _, rfl, (Cells.new _ _ _).drew, Nat.le_refl _, ((Keeps.refl _ _).alloc _).drew⟩
  obtain ⟨rfl, bm, rfl, cb, hbm, kb⟩ := hcut
  obtain ⟨o2, ho2⟩ : ∃ o2, o2 = give (give own w.heap.size 5) w1.heap.size 5 := ⟨_, rfl⟩
  have P2 : Aside (Play2 B w0 X p R C C L L V o2 wc) := ⟨by rw [ho2]; exact P1.it.fresh kb 5⟩
  have CO : Aside (CellsO o2 5 wc bo 29 [.int .i64 op.kind, .int .i64 op.at', .int .i64 op.n, .slice sa m sc]) := ⟨by rw [ho2]; exact keepO (i := 0) C1.it (nowhere_any kb) (by decide) (fun k h => give_old h)⟩
  have CM : Aside (CellsO o2 5 wc bm 32 [.int .i64 (C i), .slice va ml vc]) := ⟨⟨cb, by rw [ho2]; exact give_new hbm⟩⟩
  have RV : Aside (ReadsO o2 (20 + i) wc (.slice va ml vc) (iv (L i))) := ⟨by rw [← VE.it]; exact P2.it.row i hi⟩
  have GR : Aside _ := ⟨P2.it.ground⟩
  have k0 : wc.cell? ⟨bo, 0, none⟩ = some (.int .i64 op.kind) := by rw [CO.it.1.cell]; rfl
  have k2 : wc.cell? ⟨bo, 2, none⟩ = some (.int .i64 op.n) := by rw [CO.it.1.cell]; rfl
  have k3 : wc.cell? ⟨bo, 3, none⟩ = some (.slice sa m sc) := by rw [CO.it.1.cell]; rfl
  obtain ⟨m0, m1⟩ := refCells cb
  have hl31 : (L i).length ≤ 2147483647 := by have := HML.it; omega
  clear cb hbm kb ho2 P1 C1 c1 c2 c3 PL
  have q := Q.it
  clear Q
  · have SW : Aside (Sents 83 codeVars A wc) := ⟨HS.it.later (by have := GR.it.bel; rwa [HB.it] at this)⟩
    by_cases hbad : op.n < 0 ∨ 2147483647 < op.n
    · have NB : Aside _ := ⟨new_bad wc op.n _ (SW.it.cell 1 0 rfl) hbad⟩
      have RB : Aside (∀ w', Calls Tryd.prog 19 #[.int .i64 op.n] w' fun e w'' => e = .returned (.tuple #[.agg #[.int .i64 0, .slice none 0 0], .int .i64 2]) ∧ Keeps Nowhere w' w'') := ⟨fun w' => refNew_bad w' op.n hbad⟩
      clear hbad
      go_wp2_with fail
      refine NB.it.mono ?_
      rintro e w4 ⟨rfl, k4⟩
      have K4 : Aside _ := ⟨k4⟩
      have y2 : w4.cell? ⟨bo, 2, none⟩ = some (.int .i64 op.n) := by rw [(CO.it.1.later k4 (fun x => x)).cell]; rfl
      clear k4
      go_wp2_with fail
      refine (RB.it w4).mono ?_
      rintro e w5 ⟨rfl, k5⟩
      have K6 : Aside (Keeps Nowhere wc (w5.alloc (.cells [.int .i64 0, .slice none 0 0].toArray 32))) := ⟨(K4.it.trans k5).alloc _⟩
      clear k5
      go_wp2_with fail
      obtain ⟨w6, hw6⟩ : ∃ w6, w6 = w5.alloc (.cells [.int .i64 0, .slice none 0 0].toArray 32) := ⟨_, rfl⟩
      have ew : w5.alloc (.cells #[.int .i64 0, .slice none 0 0] 32) = w6 := hw6.symm
      rw [ew]
      rw [← hw6] at K6
      have S6 : Aside _ := ⟨SW.it.later K6.it.bel⟩
      clear hw6 ew
      refine (code_of S6.it (Coded.mk 1 2 (by decide) (by decide) (by decide))).mono ?_
      rintro e w7 ⟨rfl, rfl⟩
      go_wp2
      go_ret
      exact ⟨rfl, _, _, _, _, _, (P2.it.quiet K6.it).one⟩
    · obtain ⟨nn, hnn⟩ : ∃ nn : Nat, op.n = nn := ⟨op.n.toNat, by omega⟩
      have hn31 : nn ≤ 2147483647 := by omega
      have CO' : Aside (Cells wc bo 29 [.int .i64 op.kind, .int .i64 op.at', .int .i64 nn, .slice sa m sc]) := ⟨by rw [← hnn]; exact CO.it.1⟩
      rw [hnn] at k2
      clear hnn hbad
      go_wp2_with fail
      refine (new_good wc nn hn31).mono ?_
      rintro e w4 ⟨rfl, r4, k4⟩
      obtain ⟨pn, hpn⟩ : ∃ pn, pn = wc.heap.size := ⟨_, rfl⟩
      obtain ⟨o4, ho4⟩ : ∃ o4, o4 = give o2 wc.heap.size (10 + i) := ⟨_, rfl⟩
      have P4 : Aside (Play2 B w0 X p R C C L L V o4 w4) := ⟨by rw [ho4]; exact P2.it.fresh k4 (10 + i)⟩
      have RN4 : Aside (RingO o4 (10 + i) w4 (.pointer (some ⟨pn, 0, none⟩)) nn (iv [])) := ⟨by rw [hpn, ho4]; exact r4.mono (fun k hk _ => give_new (by omega))⟩
      have K4 : Aside _ := ⟨k4⟩
      have y2 : w4.cell? ⟨bo, 2, none⟩ = some (.int .i64 nn) := by rw [(CO'.it.later k4 (fun x => x)).cell]; rfl
      rw [← hpn]
      clear r4 k4 hpn ho4
      go_wp2_with fail
      refine (refNew_good w4 nn hn31).mono ?_
      rintro e w5 ⟨rfl, k5⟩
      have K5 : Aside _ := ⟨k5⟩
      clear k5
      go_wp2_with fail
      obtain ⟨w6, hw6⟩ : ∃ w6, w6 = w5.alloc (.cells [.int .i64 nn, .slice none 0 0].toArray 32) := ⟨_, rfl⟩
      have ew : w5.alloc (.cells #[.int .i64 nn, .slice none 0 0] 32) = w6 := hw6.symm
      rw [ew]
      obtain ⟨b6, hb6⟩ : ∃ b6, b6 = w5.heap.size := ⟨_, rfl⟩
      have k46 : Keeps Nowhere w4 w6 := by rw [hw6]; exact K5.it.alloc _
      have CB : Cells w6 b6 32 [.int .i64 nn, .slice none 0 0] := by rw [hw6, hb6]; exact Cells.new w5 _ _
      have P6 : Aside (Play2 B w0 X p R C C L L V o4 w6) := ⟨P4.it.quiet k46⟩
      have RN6 : Aside (RingO o4 (10 + i) w6 (.pointer (some ⟨pn, 0, none⟩)) nn (iv [])) := ⟨RN4.it.quiet k46⟩
      have hne : b6 ≠ p := by have := P4.it.cells.1.lt; have := K5.it.size; omega
      have KS1 : Aside ((w6.setCell ⟨p, i, none⟩ (.pointer (some ⟨pn, 0, none⟩))).drew.cell? ⟨b6, 0, none⟩ = some (.int .i64 nn) ∧ (w6.setCell ⟨p, i, none⟩ (.pointer (some ⟨pn, 0, none⟩))).drew.cell? ⟨b6, 1, none⟩ = some (.slice none 0 0)) := ⟨refCells (CB.setOther _ _ hne).drew⟩
      have KS3 : Aside ((((w6.setCell ⟨p, i, none⟩ (.pointer (some ⟨pn, 0, none⟩))).setCell ⟨p, 4 + i * 2, none⟩ (.int .i64 nn)).setCell ⟨p, 4 + i * 2 + 1, none⟩ (.slice none 0 0)).drew.cell? ⟨b6, 0, none⟩ = some (.int .i64 nn) ∧ (((w6.setCell ⟨p, i, none⟩ (.pointer (some ⟨pn, 0, none⟩))).setCell ⟨p, 4 + i * 2, none⟩ (.int .i64 nn)).setCell ⟨p, 4 + i * 2 + 1, none⟩ (.slice none 0 0)).drew.cell? ⟨b6, 1, none⟩ = some (.slice none 0 0)) := ⟨refCells (((CB.setOther _ _ hne).setOther _ _ hne).setOther _ _ hne).drew⟩
      obtain ⟨z0, z1⟩ := refCells CB
      rw [← hb6]
      clear hw6 ew hb6 k46 CB P4 RN4 K5 K4 y2
      refine (code_nil w6).mono ?_
      rintro e w7 ⟨rfl, rfl⟩
      by_cases hi3 : (i : Int) < 3
      · obtain ⟨c1, c2, c3⟩ := P6.it.one.at3 i hi
        rw [VE.it] at c3
        have f1 := P6.it.cells.1.frozen i
        have f2 := P6.it.cells.1.frozen (4 + i * 2)
        have f3 := P6.it.cells.1.frozen (4 + i * 2 + 1)
        have n1 : ¬ i = 4 + i * 2 := by omega
        have n2 : ¬ i = 4 + i * 2 + 1 := by omega
        have n3 : ¬ 4 + i * 2 = i := by omega
        have n4 : ¬ 4 + i * 2 + 1 = i := by omega
        go_upto_region 10 with fail
        go_region_held_law (fun w' => w'.cell? ⟨b6, 0, none⟩ = some (.int .i64 nn) ∧ w'.cell? ⟨b6, 1, none⟩ = some (.slice none 0 0)) (with_reducible first | exact ⟨drew_cell z0, drew_cell z1⟩ | exact KS1.it | exact KS3.it) (fail)
        obtain ⟨w8, hw8⟩ : ∃ w8, w8 = (((w7.setCell ⟨p, i, none⟩ (.pointer (some ⟨pn, 0, none⟩))).setCell ⟨p, 4 + i * 2, none⟩ (.int .i64 nn)).setCell ⟨p, 4 + i * 2 + 1, none⟩ (.slice none 0 0)).drew := ⟨_, rfl⟩
        have P8 : Aside (Play2 B w0 X p (upd R i (.pointer (some ⟨pn, 0, none⟩))) (upd C i nn) (upd C i nn) (upd L i []) (upd L i []) (upd V i (.slice none 0 0)) o4 w8) := ⟨by
          rw [hw8]
          exact ((P6.it.setRing i hi _ nn [] RN6.it).setModel i hi nn _ [] (reads_nil _ _ _)).quiet (Keeps.refl Nowhere _).drew⟩
        try rw [← hw8]
        clear hw8
        go_wp2
        go_ret
        exact ⟨rfl, _, _, _, _, _, P8.it.one⟩
      · go_wp2
        go_ret
        exact ⟨rfl, _, _, _, _, _, P6.it.one⟩
end Go.Proofs.YtkmijhfimkcoiaaDoor
