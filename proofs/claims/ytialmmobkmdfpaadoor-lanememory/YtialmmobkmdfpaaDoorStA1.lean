/-
  culvertlaw11.step on a lane
-/
import Derived.Test.YtialmmobkmdfpaaDoorLnY
import Derived.Test.YtialmmobkmdfpaaDoorRlD
import Derived.Test.YtialmmobkmdfpaaDoorLnN
namespace Go.Proofs.YtialmmobkmdfpaaDoor
open Go.RowKit

variable {A : Nat → Addr} {w w' w0 : World} {own own' : Nat → Nat} {p m : Nat} {L : List Tk} {I : Nat → Prop} {vm : Value}

theorem countX (h : Ln A w0 own w p L m) (hm : m ≤ 8796093022208) (kind : Int) : Calls Tryd.prog 14 #[ptr p, .int .i64 kind] w fun e w' => e = .returned (.int .i64 (cntK kind L)) ∧ Aside (Keeps Nowhere w w') := by
  obtain ⟨Z, h1, rfl⟩ := h.l
  exact count_at h1 hm kind
theorem nextE' (h : Ln A w0 own w p [] m) : Calls Tryd.prog 17 #[ptr p] w fun e w' => e = .returned (.tuple #[tkv 0 0 0, .bool false]) ∧ Aside (Keeps Nowhere w w') ∧ Aside (Ln A w0 own w' p [] m) := by
  obtain ⟨Z, h1, h2⟩ := h.l
  obtain rfl : Z = [] := by simpa using h2
  refine (next_empty h1).mono ?_
  rintro e w' ⟨rfl, k⟩
  exact ⟨rfl, ⟨k⟩, ⟨h.quiet k⟩⟩
theorem Ln.pair (h : Ln A w0 own w p L m) : L.Pairwise (fun x y => x.k = y.k → x.s = y.s → ¬ Single x.k) := by
  obtain ⟨Z, ⟨fp, mb, F, h1⟩, rfl⟩ := h.l
  exact List.pairwise_map.2 h1.ok.uniq
theorem Ln.wideL (h : Ln A w0 own w p L m) : ∀ t ∈ L, t.Wide := by
  obtain ⟨Z, ⟨fp, mb, F, h1⟩, rfl⟩ := h.l
  intro t ht
  obtain ⟨x, hx, rfl⟩ := List.mem_map.1 ht
  exact (h1.ok.may x hx).2
def stepL (L : List Tk) (o : OpV11) : List Tk := if o.kind = 0 then (putL L o.t).1 else if o.kind = 1 then L.tail else if o.kind = 2 then L.eraseP (isT o.t.k o.t.s) else if o.kind = 3 then L.filter (fun t => !decide (t.s = o.t.s)) else if o.kind = 4 then [] else L
abbrev opv (o : OpV11) : Value := .agg #[.int .i64 o.kind, .int .i64 o.t.k, .int .u32 o.t.s, .int .u32 o.t.v]
/-- a row that is new is no one's but ours -/
theorem rdO9_new {v : Value} {n : Nat} (h : w'.ownsRow w.heap.size 30 3 v n (flatT L)) (hn : n = L.length) : RdO9 (give own w.heap.size 9) w' v L := by
  subst hn
  exact ⟨owns_readsK h, fun k hk => ⟨give_new (owns_base h k hk), owns_lt h k hk⟩⟩
theorem rdO9_nil (own : Nat → Nat) (w : World) : RdO9 own w (.slice none 0 0) [] := ⟨rdT_none (Nat.zero_le _) (fun _ => rfl), fun k hk => by cases hk⟩
theorem erase_none (L : List Tk) (f : Tk → Bool) (h : L.findIdx? f = none) : L.eraseP f = L ∧ L.any f = false := by
  rw [List.findIdx?_eq_none_iff] at h
  exact ⟨List.eraseP_of_forall_not (fun x hx => by rw [h x hx]; simp), List.any_eq_false.2 (fun x hx => by rw [h x hx]; simp)⟩
theorem erase_none2 (L : List Tk) (f : Tk → Bool) (h : L.any f = false) : L.eraseP f = L := List.eraseP_of_forall_not (fun x hx => List.any_eq_false.1 h x hx)
theorem erase_some (L : List Tk) (f : Tk → Bool) (i : Nat) (h : L.findIdx? f = some i) : L.eraseP f = L.take i ++ L.drop (i + 1) ∧ L.any f = true ∧ i < L.length := by
  induction L generalizing i with
  | nil => simp at h
  | cons x L ih =>
    rw [List.findIdx?_cons] at h
    cases hx : f x with
    | true =>
      rw [hx] at h
      simp only [if_true, Option.some.injEq] at h
      subst h
      refine ⟨by rw [List.eraseP_cons_of_pos hx]; rfl, by rw [List.any_cons, hx, Bool.true_or], by simp⟩
    | false =>
      rw [hx] at h
      cases hf : L.findIdx? f with
      | none => rw [hf] at h; simp at h
      | some j =>
        rw [hf] at h
        simp at h
        subst h
        obtain ⟨a, b, c⟩ := ih j hf
        refine ⟨?_, by rw [List.any_cons, hx, b, Bool.false_or], by simp only [List.length_cons]; omega⟩
        rw [List.eraseP_cons_of_neg (by rw [hx]; simp), a]
        rfl
set_option maxRecDepth 20000 in
set_option maxHeartbeats 4000000 in
theorem stepP (h : Ln A w0 own w p L m) (hr : RdO9 own w vm L) (o : OpV11) (ho : o.t.Wide) (hm : m < 8796093022207) :
    Calls Tryd.prog 10 #[ptr p, vm, opv o] w fun e w' => ∃ vm' own', e = .returned (.tuple #[vm', .bool true]) ∧ Aside (Ln A w0 own' w' p (stepL L o) (m + 1) ∧ RdO9 own' w' vm' (stepL L o)) := by
  obtain ⟨W0, hW0⟩ : ∃ W0, W0 = w.alloc (.cells #[.int .i64 o.kind, .int .i64 o.t.k, .int .u32 o.t.s, .int .u32 o.t.v] 32) := ⟨_, rfl⟩
  have k0 : Keeps Nowhere w W0 := by rw [hW0]; exact (Keeps.refl _ _).alloc _
  have s0 : Sn (fun _ => False) own w (give own w.heap.size 9) W0 := Sn.quiet k0 9
  have X0 : Aside (Tx A w0 p L m w.heap.size o vm L vm L (give own w.heap.size 9) W0) := ⟨⟨h.sn s0 (fun x => x) (fun _ _ x => x), ⟨by rw [hW0]; exact Cells.new _ _ _, give_new (Nat.le_refl _)⟩, hr.sn s0 (fun x => x), hr.sn s0 (fun x => x)⟩⟩
  generalize give own w.heap.size 9 = own0 at X0
  have hlb := h.bound
  obtain ⟨qa, ca, hvm, hla, hma, hat⟩ := hr.1.at
  have HAT := Aside.mk hat
  subst hvm
  obtain ⟨d0, d1, d2, d3⟩ := Tx.cells X0
  have HO := Aside.mk ho
  clear h hr k0 s0 ho hma hat
  go_enter Tryd.func10, Tryd.ntmps10
  go_upto_region 1 with fail
  rw [← hW0]
  clear hW0
  generalize w.heap.size = b at X0 d0 d1 d2 d3 ⊢
  by_cases k0 : o.kind = 0
  · have HS : Aside (stepL L o = (putL L o.t).1) := ⟨by rw [stepL, if_pos k0]⟩
    rw [k0] at d0
    have PR := Aside.mk (putR (w := W0) _ L o.t X0.it.w.1 HO.it X0.it.l.pair X0.it.l.wideL (by omega))
    clear k0
    go_upto_region 4 with (first | (go_at_call 27; refine PR.it.mono ?_; rintro e w1 ⟨v1, rfl, hr1, k1⟩) | fail)
    have s1 : Sn (fun _ => False) own0 W0 (give own0 W0.heap.size 9) w1 := Sn.quiet k1.it 9
    have R1 : Aside (RdO9 (give own0 W0.heap.size 9) w1 v1 (putL L o.t).1) := ⟨by
      rcases hr1.it with ⟨e1, e2⟩ | e1
      · rw [e1, e2]; exact X0.it.w.sn s1 (fun x => x)
      · exact ⟨owns_readsK e1, fun k hk => ⟨give_new (owns_base e1 k hk), owns_lt e1 k hk⟩⟩⟩
    have X1 : Aside (Tx A w0 p L m b o (.slice qa L.length ca) L v1 (putL L o.t).1 (give own0 W0.heap.size 9) w1) := ⟨⟨X0.it.l.sn s1 (fun x => x) (fun _ _ x => x), X0.it.b.sn s1 (fun x => x), X0.it.w.sn s1 (fun x => x), R1.it⟩⟩
    generalize give own0 W0.heap.size 9 = own1 at X1
    clear s1 R1 hr1 PR d0 d1 d2 d3
    obtain ⟨d0, d1, d2, d3⟩ := Tx.cells X1
    have PX := Aside.mk (putX X1.it.l o.t HO.it (by omega))
    go_wp2_with (first
      | (go_at_call 16; refine PX.it.mono ?_; rintro e w2 ⟨x2, own2, rfl, hx2, L2, S2⟩; have X2 := Tx.sn X1 S2.it L2.it)
      | (go_at_call 23; refine (code_of X2.it.l.g.st.s hx2).mono ?_; rintro e w3 ⟨rfl, rfl⟩)
      | fail)
    go_ret2
    refine ⟨v1, own2, ?_, ⟨?_⟩⟩
    · simp
    · rw [HS.it]; exact ⟨X2.it.l, X2.it.f⟩
  · have k0' : (o.kind == 0) = false := by simpa using k0
    by_cases k1 : o.kind = 1
    · have HS : Aside (stepL L o = L.tail) := ⟨by rw [stepL, if_neg k0, if_pos k1]⟩
      rw [k1] at d0
      clear k0 k0' k1
      rcases L with _ | ⟨t, L'⟩
      · have NX := Aside.mk (nextE' X0.it.l)
        go_upto_region 9 with (first | (go_at_call 17; refine NX.it.mono ?_; rintro e w1 ⟨rfl, k1, L1⟩) | fail)
        have X1 := Tx.quiet X0 k1.it
        obtain ⟨W2, hW2⟩ : ∃ W2, W2 = w1.alloc (tbox 0 0 0) := ⟨_, rfl⟩
        rw [show w1.alloc (.cells #[.int .i64 0, .int .u32 0, .int .u32 0] 30) = W2 from hW2.symm]
        have X2 := Tx.quiet X1 (show Keeps Nowhere w1 W2 by rw [hW2]; exact (Keeps.refl _ _).alloc _)
        have G2 : Cells W2 w1.heap.size 30 [.int .i64 0, .int .u32 0, .int .u32 0] := by rw [hW2]; exact Cells.new _ _ _
        have g0 : W2.cell? ⟨w1.heap.size, 0, none⟩ = some (.int .i64 0) := by rw [G2.cell]; rfl
        have g1 : W2.cell? ⟨w1.heap.size, 1, none⟩ = some (.int .u32 0) := by rw [G2.cell]; rfl
        have g2 : W2.cell? ⟨w1.heap.size, 2, none⟩ = some (.int .u32 0) := by rw [G2.cell]; rfl
        have EQ := fun w => tk_eql w 0 0 0 0 0 0
        simp only [and_self, decide_true] at EQ
        clear hW2 G2 NX X0 X1 k1 L1 d0 d1 d2 d3
        go_upto_region 10 with fail
        go_quiet (fail)
        go_wp2
        go_ret2
        refine ⟨_, own0, rfl, ⟨?_⟩⟩
        rw [HS.it]
        have X3 := Tx.quiet X2 ((Keeps.refl Nowhere W2).drewN nq)
        exact ⟨X3.it.l.more, X3.it.w⟩
      · have NX := Aside.mk (nextX t X0.it.l (by omega))
        go_upto_region 9 with (first | (go_at_call 17; refine NX.it.mono ?_; rintro e w1 ⟨own1, rfl, L1, S1⟩) | fail)
        have X1 := Tx.sn X0 S1.it L1.it
        obtain ⟨W2, hW2⟩ : ∃ W2, W2 = w1.alloc (tbox t.k t.s t.v) := ⟨_, rfl⟩
        rw [show w1.alloc (.cells #[.int .i64 t.k, .int .u32 t.s, .int .u32 t.v] 30) = W2 from hW2.symm]
        have X2 := Tx.quiet X1 (show Keeps Nowhere w1 W2 by rw [hW2]; exact (Keeps.refl _ _).alloc _)
        have G2 : Aside (Cells W2 w1.heap.size 30 (tcells t)) := ⟨by rw [hW2]; exact tbox_new _ _ _ _⟩
        generalize w1.heap.size = gb at G2 ⊢
        obtain ⟨g, oo, rfl, _⟩ := HAT.it 0 t rfl
        have WR : Aside (∀ W, Aside (Keeps Nowhere W2 W) → Calls Tryd.prog 28 #[.slice (some ⟨g, oo, none⟩) (L'.length + 1) ca, .int .i64 0] W fun e w' => ∃ v', e = .returned v' ∧ Aside (w'.ownsRow W2.heap.size 30 3 v' L'.length (flatT L')) ∧ Aside (Keeps Nowhere W2 w')) := ⟨fun W k => by
          refine (withoutR (w := W) _ (t :: L') 0 (X2.it.w.1.quiet k.it) (by simp) (by omega)).mono ?_
          rintro e w' ⟨v', rfl, ow, kk⟩
          exact ⟨v', rfl, ⟨owns_mono ow.it k.it.size⟩, ⟨k.it.trans kk.it⟩⟩⟩
        have CL : Aside (∀ W, Aside (Keeps Nowhere W2 W) → (W.cell? ⟨gb, 0, none⟩ = some (.int .i64 t.k) ∧ W.cell? ⟨gb, 1, none⟩ = some (.int .u32 t.s) ∧ W.cell? ⟨gb, 2, none⟩ = some (.int .u32 t.v)) ∧ (W.cell? ⟨g, oo, none⟩ = some (.int .i64 t.k) ∧ W.cell? ⟨g, oo + 1, none⟩ = some (.int .u32 t.s) ∧ W.cell? ⟨g, oo + 2, none⟩ = some (.int .u32 t.v))) := ⟨fun W k => by
          have tb := TB.of (G2.it.later k.it (fun x => x))
          obtain ⟨q3, c3, e4, _, _, hA3⟩ := (X2.it.w.1.quiet k.it).at
          injection e4 with e4 _ _
          obtain ⟨g', o', e5, a0, a1, a2⟩ := hA3 0 t rfl
          rw [e5] at e4
          injection e4 with e4
          injection e4 with e6 e7
          subst e6 e7
          simp only [Nat.zero_mul, Nat.add_zero] at a0 a1 a2
          exact ⟨⟨tb.c0, tb.c1, tb.c2⟩, a0, a1, a2⟩⟩
        have EQ := fun w => tk_eql w t.k t.k t.s t.s t.v t.v
        simp only [and_self, decide_true] at EQ
        have KK : Aside (Keeps Nowhere W2 W2) := ⟨Keeps.refl _ _⟩
        have KD : Aside (Keeps Nowhere W2 W2.drew) := ⟨(Keeps.refl _ _).drew⟩
        clear hW2 NX X0 X1 S1 L1 d0 d1 d2 d3
        go_upto_region 11 with fail
        all_goals (try (exfalso; omega))
        go_region_held3 (fun W => (W.cell? ⟨gb, 0, none⟩ = some (.int .i64 t.k) ∧ W.cell? ⟨gb, 1, none⟩ = some (.int .u32 t.s) ∧ W.cell? ⟨gb, 2, none⟩ = some (.int .u32 t.v)) ∧ (W.cell? ⟨g, oo, none⟩ = some (.int .i64 t.k) ∧ W.cell? ⟨g, oo + 1, none⟩ = some (.int .u32 t.s) ∧ W.cell? ⟨g, oo + 2, none⟩ = some (.int .u32 t.v))) (exact CL.it _ (by with_reducible assumption)) (first
          | (go_at_call 28; with_reducible refine (WR.it _ (by with_reducible assumption)).mono ?_; rintro e wA ⟨vA, rfl, oA, KA⟩)
          | fail)
        go_wp2
        go_ret2
        have sA : Sn (fun _ => False) own1 W2 (give own1 W2.heap.size 9) wA := Sn.quiet KA.it 9
        refine ⟨vA, give own1 W2.heap.size 9, ?_, ⟨?_⟩⟩
        · simp
        · rw [HS.it]
          exact ⟨(X2.it.l.sn sA (fun x => x) (fun _ _ x => x)).more, owns_readsK oA.it, fun k hk => ⟨give_new (owns_base oA.it k hk), owns_lt oA.it k hk⟩⟩
    · have k1' : (o.kind == 1) = false := by simpa using k1
      by_cases k2 : o.kind = 2
      · have HS : Aside (stepL L o = L.eraseP (isT o.t.k o.t.s)) := ⟨by rw [stepL, if_neg k0, if_neg k1, if_pos k2]⟩
        rw [k2] at d0
        have FR := Aside.mk (findR (w := W0) _ L o.t.k o.t.s X0.it.w.1)
        clear k0 k0' k1 k1' k2
        cases hf : L.findIdx? (isT o.t.k o.t.s) with
        | none =>
          obtain ⟨e1, e2⟩ := erase_none L _ hf
          have f1 : fndI L o.t.k o.t.s = -1 := by unfold fndI; rw [hf]
          rw [f1] at FR
          rw [e1] at HS
          have E2 := Aside.mk e2
          clear hf f1 e1 e2
          go_upto_region 14 with (first | (go_at_call 29; refine FR.it.mono ?_; rintro e w1 ⟨rfl, k1⟩) | fail)
          have X1 := Tx.quiet X0 k1.it
          clear X0 FR d0 d1 d2 d3 k1
          obtain ⟨d0, d1, d2, d3⟩ := Tx.cells X1
          have WX := Aside.mk (withdrawX X1.it.l (by omega) o.t.k o.t.s HO.it.s1)
          rw [E2.it] at WX
          go_wp2_with (first | (go_at_call 18; refine WX.it.mono ?_; rintro e w2 ⟨own2, rfl, L2, S2⟩) | fail)
          go_ret2
          have X2 := Tx.sn X1 S2.it L2.it
          refine ⟨_, own2, rfl, ⟨?_⟩⟩
          rw [HS.it]
          have h2 := X2.it.l
          rw [(erase_none2 L _ E2.it)] at h2
          exact ⟨h2.more, X2.it.w⟩
        | some i =>
          obtain ⟨e1, e2, e3⟩ := erase_some L _ i hf
          have f1 : fndI L o.t.k o.t.s = (i : Nat) := by unfold fndI; rw [hf]
          rw [f1] at FR
          have E1 := Aside.mk e1
          have E2 := Aside.mk e2
          have E3 := Aside.mk e3
          have i1 : ¬ (i : Int) < 0 := by omega
          have i2 : (0 : Int) ≤ i := by omega
          clear hf f1 e1 e2 e3
          go_upto_region 14 with (first | (go_at_call 29; refine FR.it.mono ?_; rintro e w1 ⟨rfl, k1⟩) | fail)
          have X1 := Tx.quiet X0 k1.it
          clear X0 FR d0 d1 d2 d3 k1
          obtain ⟨d0, d1, d2, d3⟩ := Tx.cells X1
          have WX := Aside.mk (withdrawX X1.it.l (by omega) o.t.k o.t.s HO.it.s1)
          rw [E2.it] at WX
          go_upto_region 17 with (first | (go_at_call 18; refine WX.it.mono ?_; rintro e w2 ⟨own2, rfl, L2, S2⟩) | fail)
          have X2 := Tx.sn X1 S2.it L2.it
          have WR := Aside.mk (withoutR (w := w2) _ L i X2.it.w.1 E3.it (by omega))
          go_wp2_with (first | (go_at_call 28; refine WR.it.mono ?_; rintro e w3 ⟨v3, rfl, o3, k3⟩; obtain ⟨y0, y1, y2, hy⟩ := owns_shapeK o3.it; subst hy) | fail)
          go_ret2
          have s3 : Sn (fun _ => False) own2 w2 (give own2 w2.heap.size 9) w3 := Sn.quiet k3.it 9
          refine ⟨_, give own2 w2.heap.size 9, rfl, ⟨?_⟩⟩
          rw [HS.it]
          have hl : (L.eraseP (isT o.t.k o.t.s)).length = L.length - 1 := by rw [E1.it, List.length_append, List.length_take, List.length_drop]; have := E3.it; omega
          have o3' := o3.it
          rw [← E1.it, ← hl] at o3'
          exact ⟨(X2.it.l.sn s3 (fun x => x) (fun _ _ x => x)).more, owns_readsK o3', fun k hk => ⟨give_new (owns_base o3' k hk), owns_lt o3' k hk⟩⟩
      · have k2' : (o.kind == 2) = false := by simpa using k2
        by_cases k3 : o.kind = 3
        · have HS : Aside (stepL L o = L.filter (fun t => !decide (t.s = o.t.s))) := ⟨by rw [stepL, if_neg k0, if_neg k1, if_neg k2, if_pos k3]⟩
          rw [k3] at d0
          have FR := Aside.mk (forgetR (w := W0) _ L o.t.s X0.it.w.1 (by omega))
          clear k0 k0' k1 k1' k2 k2' k3
          go_upto_region 21 with (first | (go_at_call 30; refine FR.it.mono ?_; rintro e w1 ⟨v1, rfl, o1, k1⟩) | fail)
          have s1 : Sn (fun _ => False) own0 W0 (give own0 W0.heap.size 9) w1 := Sn.quiet k1.it 9
          have X1 : Aside (Tx A w0 p L m b o (.slice qa L.length ca) L v1 (L.filter (fun t => !decide (t.s = o.t.s))) (give own0 W0.heap.size 9) w1) := ⟨⟨X0.it.l.sn s1 (fun x => x) (fun _ _ x => x), X0.it.b.sn s1 (fun x => x), X0.it.w.sn s1 (fun x => x), owns_readsK o1.it, fun k hk => ⟨give_new (owns_base o1.it k hk), owns_lt o1.it k hk⟩⟩⟩
          generalize give own0 W0.heap.size 9 = own1 at X1
          clear s1 o1 FR d0 d1 d2 d3 X0
          obtain ⟨d0, d1, d2, d3⟩ := Tx.cells X1
          have FX := Aside.mk (forgetX X1.it.l (by omega) o.t.s)
          go_wp2_with (first | (go_at_call 19; refine FX.it.mono ?_; rintro e w2 ⟨own2, rfl, L2, S2⟩) | fail)
          go_ret2
          have X2 := Tx.sn X1 S2.it L2.it
          refine ⟨v1, own2, ?_, ⟨?_⟩⟩
          · simp
          · rw [HS.it]; exact ⟨X2.it.l.more, X2.it.f⟩
        · have k3' : (o.kind == 3) = false := by simpa using k3
          by_cases k4 : o.kind = 4
          · have HS : Aside (stepL L o = []) := ⟨by rw [stepL, if_neg k0, if_neg k1, if_neg k2, if_neg k3, if_pos k4]⟩
            rw [k4] at d0
            have CX := Aside.mk (clearX X0.it.l (by omega))
            clear k0 k0' k1 k1' k2 k2' k3 k3' k4
            go_wp2_with (first | (go_at_call 20; refine CX.it.mono ?_; rintro e w2 ⟨own2, rfl, L2, S2⟩) | fail)
            go_ret2
            refine ⟨.slice none 0 0, own2, ?_, ⟨?_⟩⟩
            · simp
            · rw [HS.it]; exact ⟨L2.it.more, rdO9_nil _ _⟩
          · have k4' : (o.kind == 4) = false := by simpa using k4
            have HS : Aside (stepL L o = L) := ⟨by rw [stepL, if_neg k0, if_neg k1, if_neg k2, if_neg k3, if_neg k4]⟩
            clear k0 k1 k2 k3 k4
            have CX : Aside (∀ W, Aside (Tx A w0 p L m b o (.slice qa L.length ca) L (.slice qa L.length ca) L own0 W) → Calls Tryd.prog 14 #[ptr p, .int .i64 o.t.k] W fun e w' => e = .returned (.int .i64 (cntK o.t.k L)) ∧ Aside (Tx A w0 p L m b o (.slice qa L.length ca) L (.slice qa L.length ca) L own0 w')) := ⟨fun W X => by
              refine (countX X.it.l (by omega) o.t.k).mono ?_
              rintro e w' ⟨rfl, k⟩
              exact ⟨rfl, Tx.quiet X k.it⟩⟩
            have CR : Aside (∀ W, Aside (Tx A w0 p L m b o (.slice qa L.length ca) L (.slice qa L.length ca) L own0 W) → Calls Tryd.prog 15 #[.slice qa L.length ca, .int .i64 o.t.k] W fun e w' => e = .returned (.int .i64 (cntK o.t.k L)) ∧ Aside (Tx A w0 p L m b o (.slice qa L.length ca) L (.slice qa L.length ca) L own0 w')) := ⟨fun W X => by
              refine (countR _ L o.t.k X.it.w.1).mono ?_
              rintro e w' ⟨rfl, k⟩
              exact ⟨rfl, Tx.quiet X k.it⟩⟩
            have X0d := Tx.quiet X0 (Keeps.refl _ W0).drew
            go_upto_region 24 with fail
            go_region_held3 (fun W => W.cell? ⟨b, 0, none⟩ = some (.int .i64 o.kind) ∧ W.cell? ⟨b, 1, none⟩ = some (.int .i64 o.t.k) ∧ W.cell? ⟨b, 2, none⟩ = some (.int .u32 o.t.s) ∧ W.cell? ⟨b, 3, none⟩ = some (.int .u32 o.t.v)) (exact Tx.cells (by with_reducible assumption)) (first
              | (go_at_call 14; with_reducible refine (CX.it _ (by with_reducible assumption)).mono ?_; rintro e wA ⟨rfl, XA⟩)
              | (go_at_call 15; with_reducible refine (CR.it _ (by with_reducible assumption)).mono ?_; rintro e wB ⟨rfl, XB⟩)
              | fail)
            all_goals
              go_wp2
              go_ret2
              refine ⟨.slice qa L.length ca, own0, by simp, ⟨?_⟩⟩
              rw [HS.it]
              first
                | exact ⟨XB.it.l.more, XB.it.w⟩
                | exact ⟨XA.it.l.more, XA.it.w⟩
end Go.Proofs.YtialmmobkmdfpaaDoor
