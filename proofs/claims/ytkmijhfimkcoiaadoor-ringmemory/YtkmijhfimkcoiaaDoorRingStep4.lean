/-
  culvertlaw02's Step, kind by kind
-/
import Derived.Test.YtkmijhfimkcoiaaDoorRingStep0
namespace Go.Proofs.YtkmijhfimkcoiaaDoor
open Go.RowKit Rint

variable {B : Nat} {X : Nat → TypeId → List Value → Prop} {w0 w w' : World} {p : Nat} {R : Nat → Value} {C : Nat → Nat} {L : Nat → List Int} {V : Nat → Value} {own : Nat → Nat}

set_option maxHeartbeats 20000000 in
set_option maxRecDepth 100000 in
theorem step_k5 {A : Nat → Addr} (h : PlayAt B w0 X p R C L V own w) (hB : B = w0.heap.size) (hs : Sents 83 codeVars A w0) (op : OpV) (s : Value) (hr : ReadsOff Nowhere w0 s (iv op.items)) (hnil : NilOk s)
    (hsize : op.items.length * 8 ≤ 140737488351232) (q : op.kind = 5) :
    Calls Tryd.prog 6 #[.pointer (some ⟨p, 0, none⟩), .agg #[.int .i64 op.kind, .int .i64 op.at', .int .i64 op.n, s]] w fun e w' =>
      e = .returned (.bool true) ∧ ∃ R' C' L' V' own', PlayAt B w0 X p R' C' L' V' own' w' := by
  obtain ⟨sa, sc, rfl, hsc, _⟩ := id hr
  rw [iv_length] at hsc hr hnil ⊢
  obtain ⟨m, hm⟩ : ∃ m, m = op.items.length := ⟨_, rfl⟩
  rw [← hm] at hsc hr hnil hsize ⊢
  have HSZ : Aside _ := ⟨hsize⟩
  have SRC : Aside _ := ⟨hr⟩
  have NIL : Aside _ := ⟨hnil⟩
  have HM : Aside _ := ⟨hm⟩
  have HS : Aside _ := ⟨hs⟩
  have HB : Aside _ := ⟨hB⟩
  have PL : Aside _ := ⟨h⟩
  have Q : Aside _ := ⟨q⟩
  clear hr hnil hm hs hB h q
  go_enter Tryd.func6, Tryd.ntmps6
  go_upto_region 1 with fail
  obtain ⟨w1, hw1⟩ : ∃ w1, w1 = w.alloc (.cells [.int .i64 op.kind, .int .i64 op.at', .int .i64 op.n, .slice sa m sc].toArray 29) := ⟨_, rfl⟩
  have ew : w.alloc (.cells #[.int .i64 op.kind, .int .i64 op.at', .int .i64 op.n, .slice sa m sc] 29) = w1 := hw1.symm
  rw [ew]
  have ka : Keeps Nowhere w w1 := by rw [hw1]; exact (Keeps.refl _ _).alloc _
  obtain ⟨bo, hbo⟩ : ∃ bo, bo = w.heap.size := ⟨_, rfl⟩
  have C1 : Aside (CellsO (give own w.heap.size 5) 5 w1 bo 29 [.int .i64 op.kind, .int .i64 op.at', .int .i64 op.n, .slice sa m sc]) := by
    refine ⟨?_, ?_⟩
    · rw [hw1, hbo]; exact Cells.new w _ _
    · rw [hbo]; exact give_new (Nat.le_refl _)
  have P1 : Aside _ := ⟨PL.it.two.fresh ka 5⟩
  rw [← hbo]
  clear hw1 ew ka hbo
  have x1 : w1.cell? ⟨bo, 1, none⟩ = some (.int .i64 op.at') := by rw [C1.it.1.cell]; rfl
  go_cut [5] (fun x wx => (∃ i : Nat, i < 4 ∧ x = .int .i64 i) ∧ w1 = wx)
  · go_wp2
    go_meet
    obtain ⟨i, hi, e⟩ := idx_lt op.at'
    exact ⟨⟨i, hi, by rw [← e]⟩, rfl⟩
  obtain ⟨⟨i, hi, rfl⟩, rfl⟩ := hcut
  clear x1
  obtain ⟨c1, c2, c3⟩ := P1.it.one.at3 i hi
  have hrow := P1.it.row i hi
  obtain ⟨va, vc, hve, hvc, _⟩ := hrow.1
  rw [iv_length] at hve hvc
  obtain ⟨ml, hml⟩ : ∃ ml, ml = (L i).length := ⟨_, rfl⟩
  rw [← hml] at hve hvc
  rw [hve] at c3
  have VE : Aside _ := ⟨hve⟩
  have HML : Aside _ := ⟨hml⟩
  have CL := (P1.it.ring i hi).len
  rw [iv_length, ← hml] at CL
  clear hrow hve hml
  have hi0 : (0 : Int) ≤ (i : Int) := by omega
  have hi4 : (i : Int) < 4 := by omega
  go_upto_region 2 with fail
  go_cut [6, 7] (fun x6 x7 wx => x6 = R i ∧ ∃ bm, x7 = .pointer (some ⟨bm, 0, none⟩) ∧ Cells wx bm 32 [.int .i64 (C i), .slice va ml vc] ∧ w1.heap.size ≤ bm ∧ Keeps Nowhere w1 wx)
  · go_region_held_law (fun w' => w'.cell? ⟨p, i, none⟩ = some (R i) ∧ w'.cell? ⟨p, 4 + i * 2, none⟩ = some (.int .i64 (C i)) ∧ w'.cell? ⟨p, 4 + i * 2 + 1, none⟩ = some (.slice va ml vc)) (go_keep) (fail)
    all_goals
      go_wp2
      go_meet
      exact ⟨rfl, _, rfl, (Cells.new _ _ _).drew, Nat.le_refl _, ((Keeps.refl _ _).alloc _).drew⟩
  obtain ⟨rfl, bm, rfl, cb, hbm, kb⟩ := hcut
  obtain ⟨o2, ho2⟩ : ∃ o2, o2 = give (give own w.heap.size 5) w1.heap.size 5 := ⟨_, rfl⟩
  have P2 : Aside (Play2 B w0 X p R C C L L V o2 wc) := ⟨by rw [ho2]; exact P1.it.fresh kb 5⟩
  have CO : Aside (CellsO o2 5 wc bo 29 [.int .i64 op.kind, .int .i64 op.at', .int .i64 op.n, .slice sa m sc]) := ⟨by rw [ho2]; exact keepO (i := 0) C1.it (nowhere_any kb) (by decide) (fun k h => give_old h)⟩
  have CM : Aside (CellsO o2 5 wc bm 32 [.int .i64 (C i), .slice va ml vc]) := ⟨⟨cb, by rw [ho2]; exact give_new hbm⟩⟩
  have RV : Aside (ReadsO o2 (20 + i) wc (.slice va ml vc) (iv (L i))) := ⟨by rw [← VE.it]; exact P2.it.row i hi⟩
  have GR : Aside _ := ⟨P2.it.ground⟩
  have k0 : wc.cell? ⟨bo, 0, none⟩ = some (.int .i64 op.kind) := by rw [CO.it.1.cell]; rfl
  have k2 : wc.cell? ⟨bo, 2, none⟩ = some (.int .i64 op.n) := by rw [CO.it.1.cell]; rfl
  have k3 : wc.cell? ⟨bo, 3, none⟩ = some (.slice sa m sc) := by rw [CO.it.1.cell]; rfl
  obtain ⟨m0, m1⟩ := refCells cb
  have hl31 : (L i).length ≤ 2147483647 := by have := HML.it; omega
  clear cb hbm kb ho2 P1 C1 c1 c2 c3 PL
  have q := Q.it
  clear Q
  · have PD : Aside _ := ⟨P2.it.quiet (Keeps.refl Nowhere wc).drew⟩
    have t3 : ∀ w', Keeps Nowhere wc w' → w'.cell? ⟨bo, 2, none⟩ = some (.int .i64 op.n) ∧ w'.cell? ⟨bm, 0, none⟩ = some (.int .i64 (C i)) ∧ w'.cell? ⟨bm, 1, none⟩ = some (.slice va ml vc) := fun w' hk => ⟨by rw [(CO.it.1.later hk (fun x => x)).cell]; rfl, refCells (CM.it.1.later hk (fun x => x))⟩
    have T3 : Aside _ := ⟨t3⟩
    clear t3
    have hpl : ((L i).take op.n.toNat).length ≤ 9223372036854775806 := by simp; omega
    go_upto_region 29 with fail
    go_region_held_law (fun w' => w'.cell? ⟨bo, 2, none⟩ = some (.int .i64 op.n) ∧ w'.cell? ⟨bm, 0, none⟩ = some (.int .i64 (C i)) ∧ w'.cell? ⟨bm, 1, none⟩ = some (.slice va ml vc)) (with_reducible first | exact ⟨drew_cell k2, drew_cell m0, drew_cell m1⟩ | exact d7 | exact d6 | exact d5) (first | (go_at_call 9; refine (same_eq w6 s5 v6 ((L i).take op.n.toNat) (Q5.it.reads (fun _ _ x => x)) (R6.it.mono (fun _ x _ => x.elim)) hpl).mono ?_; rintro e w7 ⟨rfl, k7⟩; have K7 : Aside _ := ⟨K6.it.trans k7⟩; have d7 := T3.it w7 K7.it; clear k7) | (go_at_call 11; refine (refPeek_ok w5 (C i) _ (L i) (RV.it.quiet K5.it).plain (RV.it).2 hl31 op.n).mono ?_; rintro e w6 ⟨v6, rfl, r6, n6, k6⟩; have K6 : Aside _ := ⟨K5.it.trans k6⟩; have R6 : Aside _ := ⟨r6⟩; have Q5 : Aside _ := ⟨H5.it.later k6 (fun _ _ x => x)⟩; have d6 := T3.it w6 K6.it; clear r6 n6 k6) | (go_at_call 12; refine (peekV (PD.it.ring i hi) op.n).mono ?_; rintro e w5 ⟨s5, rfl, h5, f5, k5⟩; rw [iv_take] at h5; have K5 : Aside (Keeps Nowhere wc w5) := ⟨(Keeps.refl Nowhere wc).drew.trans k5⟩; have H5 : Aside _ := ⟨h5⟩; have d5 := T3.it w5 K5.it; clear h5 f5 k5))
    all_goals
      go_wp2
      go_ret
      exact ⟨rfl, _, _, _, _, _, (P2.it.quiet K7.it).one⟩

set_option maxHeartbeats 20000000 in
set_option maxRecDepth 100000 in
theorem step_k6 {A : Nat → Addr} (h : PlayAt B w0 X p R C L V own w) (hB : B = w0.heap.size) (hs : Sents 83 codeVars A w0) (op : OpV) (s : Value) (hr : ReadsOff Nowhere w0 s (iv op.items)) (hnil : NilOk s)
    (hsize : op.items.length * 8 ≤ 140737488351232) (q : op.kind = 6) :
    Calls Tryd.prog 6 #[.pointer (some ⟨p, 0, none⟩), .agg #[.int .i64 op.kind, .int .i64 op.at', .int .i64 op.n, s]] w fun e w' =>
      e = .returned (.bool true) ∧ ∃ R' C' L' V' own', PlayAt B w0 X p R' C' L' V' own' w' := by
  obtain ⟨sa, sc, rfl, hsc, _⟩ := id hr
  rw [iv_length] at hsc hr hnil ⊢
  obtain ⟨m, hm⟩ : ∃ m, m = op.items.length := ⟨_, rfl⟩
  rw [← hm] at hsc hr hnil hsize ⊢
  have HSZ : Aside _ := ⟨hsize⟩
  have SRC : Aside _ := ⟨hr⟩
  have NIL : Aside _ := ⟨hnil⟩
  have HM : Aside _ := ⟨hm⟩
  have HS : Aside _ := ⟨hs⟩
  have HB : Aside _ := ⟨hB⟩
  have PL : Aside _ := ⟨h⟩
  have Q : Aside _ := ⟨q⟩
  clear hr hnil hm hs hB h q
  go_enter Tryd.func6, Tryd.ntmps6
  go_upto_region 1 with fail
  obtain ⟨w1, hw1⟩ : ∃ w1, w1 = w.alloc (.cells [.int .i64 op.kind, .int .i64 op.at', .int .i64 op.n, .slice sa m sc].toArray 29) := ⟨_, rfl⟩
  have ew : w.alloc (.cells #[.int .i64 op.kind, .int .i64 op.at', .int .i64 op.n, .slice sa m sc] 29) = w1 := hw1.symm
  rw [ew]
  have ka : Keeps Nowhere w w1 := by rw [hw1]; exact (Keeps.refl _ _).alloc _
  obtain ⟨bo, hbo⟩ : ∃ bo, bo = w.heap.size := ⟨_, rfl⟩
  have C1 : Aside (CellsO (give own w.heap.size 5) 5 w1 bo 29 [.int .i64 op.kind, .int .i64 op.at', .int .i64 op.n, .slice sa m sc]) := by
    refine ⟨?_, ?_⟩
    · rw [hw1, hbo]; exact Cells.new w _ _
    · rw [hbo]; exact give_new (Nat.le_refl _)
  have P1 : Aside _ := ⟨PL.it.two.fresh ka 5⟩
  rw [← hbo]
  clear hw1 ew ka hbo
  have x1 : w1.cell? ⟨bo, 1, none⟩ = some (.int .i64 op.at') := by rw [C1.it.1.cell]; rfl
  go_cut [5] (fun x wx => (∃ i : Nat, i < 4 ∧ x = .int .i64 i) ∧ w1 = wx)
  · go_wp2
    go_meet
    obtain ⟨i, hi, e⟩ := idx_lt op.at'
    exact ⟨⟨i, hi, by rw [← e]⟩, rfl⟩
  obtain ⟨⟨i, hi, rfl⟩, rfl⟩ := hcut
  clear x1
  obtain ⟨c1, c2, c3⟩ := P1.it.one.at3 i hi
  have hrow := P1.it.row i hi
  obtain ⟨va, vc, hve, hvc, _⟩ := hrow.1
  rw [iv_length] at hve hvc
  obtain ⟨ml, hml⟩ : ∃ ml, ml = (L i).length := ⟨_, rfl⟩
  rw [← hml] at hve hvc
  rw [hve] at c3
  have VE : Aside _ := ⟨hve⟩
  have HML : Aside _ := ⟨hml⟩
  have CL := (P1.it.ring i hi).len
  rw [iv_length, ← hml] at CL
  clear hrow hve hml
  have hi0 : (0 : Int) ≤ (i : Int) := by omega
  have hi4 : (i : Int) < 4 := by omega
  go_upto_region 2 with fail
  go_cut [6, 7] (fun x6 x7 wx => x6 = R i ∧ ∃ bm, x7 = .pointer (some ⟨bm, 0, none⟩) ∧ Cells wx bm 32 [.int .i64 (C i), .slice va ml vc] ∧ w1.heap.size ≤ bm ∧ Keeps Nowhere w1 wx)
  · go_region_held_law (fun w' => w'.cell? ⟨p, i, none⟩ = some (R i) ∧ w'.cell? ⟨p, 4 + i * 2, none⟩ = some (.int .i64 (C i)) ∧ w'.cell? ⟨p, 4 + i * 2 + 1, none⟩ = some (.slice va ml vc)) (go_keep) (fail)
    all_goals
      go_wp2
      go_meet
      exact ⟨rfl, _, rfl, (Cells.new _ _ _).drew, Nat.le_refl _, ((Keeps.refl _ _).alloc _).drew⟩
  obtain ⟨rfl, bm, rfl, cb, hbm, kb⟩ := hcut
  obtain ⟨o2, ho2⟩ : ∃ o2, o2 = give (give own w.heap.size 5) w1.heap.size 5 := ⟨_, rfl⟩
  have P2 : Aside (Play2 B w0 X p R C C L L V o2 wc) := ⟨by rw [ho2]; exact P1.it.fresh kb 5⟩
  have CO : Aside (CellsO o2 5 wc bo 29 [.int .i64 op.kind, .int .i64 op.at', .int .i64 op.n, .slice sa m sc]) := ⟨by rw [ho2]; exact keepO (i := 0) C1.it (nowhere_any kb) (by decide) (fun k h => give_old h)⟩
  have CM : Aside (CellsO o2 5 wc bm 32 [.int .i64 (C i), .slice va ml vc]) := ⟨⟨cb, by rw [ho2]; exact give_new hbm⟩⟩
  have RV : Aside (ReadsO o2 (20 + i) wc (.slice va ml vc) (iv (L i))) := ⟨by rw [← VE.it]; exact P2.it.row i hi⟩
  have GR : Aside _ := ⟨P2.it.ground⟩
  have k0 : wc.cell? ⟨bo, 0, none⟩ = some (.int .i64 op.kind) := by rw [CO.it.1.cell]; rfl
  have k2 : wc.cell? ⟨bo, 2, none⟩ = some (.int .i64 op.n) := by rw [CO.it.1.cell]; rfl
  have k3 : wc.cell? ⟨bo, 3, none⟩ = some (.slice sa m sc) := by rw [CO.it.1.cell]; rfl
  obtain ⟨m0, m1⟩ := refCells cb
  have hl31 : (L i).length ≤ 2147483647 := by have := HML.it; omega
  clear cb hbm kb ho2 P1 C1 c1 c2 c3 PL
  have q := Q.it
  clear Q
  · have AC := atV (P2.it.ring i hi) op.n
    rw [atI_iv] at AC
    have av : ((atZ (L i) op.n).map (Value.int .i64)).getD (.int .i64 0) = .int .i64 ((atZ (L i) op.n).getD 0) := by cases atZ (L i) op.n <;> rfl
    have ab : ((atZ (L i) op.n).map (Value.int .i64)).isSome = (atZ (L i) op.n).isSome := by cases atZ (L i) op.n <;> rfl
    rw [av, ab] at AC
    obtain ⟨uz, huz⟩ : ∃ uz, uz = (atZ (L i) op.n).getD 0 := ⟨_, rfl⟩
    obtain ⟨ub, hub⟩ : ∃ ub, ub = (atZ (L i) op.n).isSome := ⟨_, rfl⟩
    rw [← huz, ← hub] at AC
    have ACA : Aside _ := ⟨AC⟩
    have RA : Aside (∀ w', Keeps Nowhere wc w' → Calls Tryd.prog 24 #[.agg #[.int .i64 (C i), .slice va ml vc], .int .i64 op.n] w' fun e w'' => e = .returned (.tuple #[.int .i64 uz, .bool ub]) ∧ Keeps Nowhere w' w'') := ⟨fun w' hk' => by
      rw [huz, hub]
      exact refAt_ok w' (C i) _ (L i) (RV.it.quiet hk').plain _⟩
    clear av ab AC huz hub
    go_wp2_with fail
    refine ACA.it.mono ?_
    rintro e w8 ⟨rfl, k8⟩
    have K8 : Aside _ := ⟨k8⟩
    obtain ⟨y2, y3⟩ := refCells (CM.it.1.later k8 (fun x => x))
    have y4 : w8.cell? ⟨bo, 2, none⟩ = some (.int .i64 op.n) := by rw [(CO.it.1.later k8 (fun x => x)).cell]; rfl
    have RA8 : Aside _ := ⟨RA.it w8 k8⟩
    clear k8
    go_wp2_with fail
    refine RA8.it.mono ?_
    rintro e w9 ⟨rfl, k9⟩
    have K9 : Aside _ := ⟨K8.it.trans k9⟩
    clear k9
    go_wp2
    go_ret
    exact ⟨rfl, _, _, _, _, _, (P2.it.quiet K9.it).one⟩

set_option maxHeartbeats 20000000 in
set_option maxRecDepth 100000 in
theorem step_k7 {A : Nat → Addr} (h : PlayAt B w0 X p R C L V own w) (hB : B = w0.heap.size) (hs : Sents 83 codeVars A w0) (op : OpV) (s : Value) (hr : ReadsOff Nowhere w0 s (iv op.items)) (hnil : NilOk s)
    (hsize : op.items.length * 8 ≤ 140737488351232) (q0 : ¬ op.kind = 0) (q1 : ¬ op.kind = 1) (q2 : ¬ op.kind = 2) (q3 : ¬ op.kind = 3) (q4 : ¬ op.kind = 4) (q5 : ¬ op.kind = 5) (q6 : ¬ op.kind = 6) :
    Calls Tryd.prog 6 #[.pointer (some ⟨p, 0, none⟩), .agg #[.int .i64 op.kind, .int .i64 op.at', .int .i64 op.n, s]] w fun e w' =>
      e = .returned (.bool true) ∧ ∃ R' C' L' V' own', PlayAt B w0 X p R' C' L' V' own' w' := by
  obtain ⟨sa, sc, rfl, hsc, _⟩ := id hr
  rw [iv_length] at hsc hr hnil ⊢
  obtain ⟨m, hm⟩ : ∃ m, m = op.items.length := ⟨_, rfl⟩
  rw [← hm] at hsc hr hnil hsize ⊢
  have HSZ : Aside _ := ⟨hsize⟩
  have SRC : Aside _ := ⟨hr⟩
  have NIL : Aside _ := ⟨hnil⟩
  have HM : Aside _ := ⟨hm⟩
  have HS : Aside _ := ⟨hs⟩
  have HB : Aside _ := ⟨hB⟩
  have PL : Aside _ := ⟨h⟩
  clear hr hnil hm hs hB h
  go_enter Tryd.func6, Tryd.ntmps6
  go_upto_region 1 with fail
  obtain ⟨w1, hw1⟩ : ∃ w1, w1 = w.alloc (.cells [.int .i64 op.kind, .int .i64 op.at', .int .i64 op.n, .slice sa m sc].toArray 29) := ⟨_, rfl⟩
  have ew : w.alloc (.cells #[.int .i64 op.kind, .int .i64 op.at', .int .i64 op.n, .slice sa m sc] 29) = w1 := hw1.symm
  rw [ew]
  have ka : Keeps Nowhere w w1 := by rw [hw1]; exact (Keeps.refl _ _).alloc _
  obtain ⟨bo, hbo⟩ : ∃ bo, bo = w.heap.size := ⟨_, rfl⟩
  have C1 : Aside (CellsO (give own w.heap.size 5) 5 w1 bo 29 [.int .i64 op.kind, .int .i64 op.at', .int .i64 op.n, .slice sa m sc]) := by
    refine ⟨?_, ?_⟩
    · rw [hw1, hbo]; exact Cells.new w _ _
    · rw [hbo]; exact give_new (Nat.le_refl _)
  have P1 : Aside _ := ⟨PL.it.two.fresh ka 5⟩
  rw [← hbo]
  clear hw1 ew ka hbo
  have x1 : w1.cell? ⟨bo, 1, none⟩ = some (.int .i64 op.at') := by rw [C1.it.1.cell]; rfl
  go_cut [5] (fun x wx => (∃ i : Nat, i < 4 ∧ x = .int .i64 i) ∧ w1 = wx)
  · go_wp2
    go_meet
    obtain ⟨i, hi, e⟩ := idx_lt op.at'
    exact ⟨⟨i, hi, by rw [← e]⟩, rfl⟩
  obtain ⟨⟨i, hi, rfl⟩, rfl⟩ := hcut
  clear x1
  obtain ⟨c1, c2, c3⟩ := P1.it.one.at3 i hi
  have hrow := P1.it.row i hi
  obtain ⟨va, vc, hve, hvc, _⟩ := hrow.1
  rw [iv_length] at hve hvc
  obtain ⟨ml, hml⟩ : ∃ ml, ml = (L i).length := ⟨_, rfl⟩
  rw [← hml] at hve hvc
  rw [hve] at c3
  have VE : Aside _ := ⟨hve⟩
  have HML : Aside _ := ⟨hml⟩
  have CL := (P1.it.ring i hi).len
  rw [iv_length, ← hml] at CL
  clear hrow hve hml
  have hi0 : (0 : Int) ≤ (i : Int) := by omega
  have hi4 : (i : Int) < 4 := by omega
  go_upto_region 2 with fail
  go_cut [6, 7] (fun x6 x7 wx => x6 = R i ∧ ∃ bm, x7 = .pointer (some ⟨bm, 0, none⟩) ∧ Cells wx bm 32 [.int .i64 (C i), .slice va ml vc] ∧ w1.heap.size ≤ bm ∧ Keeps Nowhere w1 wx)
  · go_region_held_law (fun w' => w'.cell? ⟨p, i, none⟩ = some (R i) ∧ w'.cell? ⟨p, 4 + i * 2, none⟩ = some (.int .i64 (C i)) ∧ w'.cell? ⟨p, 4 + i * 2 + 1, none⟩ = some (.slice va ml vc)) (go_keep) (fail)
    all_goals
      go_wp2
      go_meet
      exact ⟨rfl, _, rfl, (Cells.new _ _ _).drew, Nat.le_refl _, ((Keeps.refl _ _).alloc _).drew⟩
  obtain ⟨rfl, bm, rfl, cb, hbm, kb⟩ := hcut
  obtain ⟨o2, ho2⟩ : ∃ o2, o2 = give (give own w.heap.size 5) w1.heap.size 5 := ⟨_, rfl⟩
  have P2 : Aside (Play2 B w0 X p R C C L L V o2 wc) := ⟨by rw [ho2]; exact P1.it.fresh kb 5⟩
  have CO : Aside (CellsO o2 5 wc bo 29 [.int .i64 op.kind, .int .i64 op.at', .int .i64 op.n, .slice sa m sc]) := ⟨by rw [ho2]; exact keepO (i := 0) C1.it (nowhere_any kb) (by decide) (fun k h => give_old h)⟩
  have CM : Aside (CellsO o2 5 wc bm 32 [.int .i64 (C i), .slice va ml vc]) := ⟨⟨cb, by rw [ho2]; exact give_new hbm⟩⟩
  have RV : Aside (ReadsO o2 (20 + i) wc (.slice va ml vc) (iv (L i))) := ⟨by rw [← VE.it]; exact P2.it.row i hi⟩
  have GR : Aside _ := ⟨P2.it.ground⟩
  have k0 : wc.cell? ⟨bo, 0, none⟩ = some (.int .i64 op.kind) := by rw [CO.it.1.cell]; rfl
  have k2 : wc.cell? ⟨bo, 2, none⟩ = some (.int .i64 op.n) := by rw [CO.it.1.cell]; rfl
  have k3 : wc.cell? ⟨bo, 3, none⟩ = some (.slice sa m sc) := by rw [CO.it.1.cell]; rfl
  obtain ⟨m0, m1⟩ := refCells cb
  have hl31 : (L i).length ≤ 2147483647 := by have := HML.it; omega
  clear cb hbm kb ho2 P1 C1 c1 c2 c3 PL
  · have PD : Aside _ := ⟨P2.it.quiet (Keeps.refl Nowhere wc).drew⟩
    have CC : Aside _ := ⟨capV (PD.it.ring i hi)⟩
    have lc := lenV (PD.it.ring i hi)
    have fc := freeV (PD.it.ring i hi)
    rw [iv_length, ← HML.it] at lc fc
    have LC : Aside _ := ⟨lc⟩
    have FC : Aside _ := ⟨fc⟩
    have t3 : ∀ w', Keeps Nowhere wc w' → w'.cell? ⟨bm, 0, none⟩ = some (.int .i64 (C i)) ∧ w'.cell? ⟨bm, 1, none⟩ = some (.slice va ml vc) := fun w' hk => refCells (CM.it.1.later hk (fun x => x))
    have T3 : Aside _ := ⟨t3⟩
    clear t3 lc fc
    go_upto_region 34 with fail
    go_region_held_law (fun w' => w'.cell? ⟨bm, 0, none⟩ = some (.int .i64 (C i)) ∧ w'.cell? ⟨bm, 1, none⟩ = some (.slice va ml vc)) (with_reducible first | exact ⟨drew_cell m0, drew_cell m1⟩ | exact d5) (first | (go_at_call 26; refine (refFree_ok wc.drew (C i) va ml vc CL.1 CL.2).mono ?_; rintro e w5 ⟨rfl, k5⟩; have K5 : Aside (Keeps Nowhere wc w5) := ⟨(Keeps.refl Nowhere wc).drew.trans k5⟩; have d5 := T3.it w5 K5.it; clear k5) | (go_at_call 18; refine FC.it.mono ?_; rintro e w4 ⟨rfl, rfl⟩) | (go_at_call 17; refine LC.it.mono ?_; rintro e w4 ⟨rfl, rfl⟩) | (go_at_call 25; refine CC.it.mono ?_; rintro e w4 ⟨rfl, rfl⟩))
    all_goals
      go_wp2
      go_ret
      exact ⟨rfl, _, _, _, _, _, (P2.it.quiet K5.it).one⟩
end Go.Proofs.YtkmijhfimkcoiaaDoor
