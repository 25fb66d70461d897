/-
  slices.AppendSeq, Collect, Sorted over the keys of a map
-/
import Derived.Test.YtnmpnajmhfonhaaDoorPgS
namespace Go.Proofs.YtnmpnajmhfonhaaDoor.Pg
open Go.RowKit Go.Maps Go.Shelf
attribute [local go_sem] Oper.semAt_some
attribute [-go_sem] Builtin.append_

variable {w w' W : World} {mb k b : Nat} {L : Tl Unit}

theorem keeps_grown' {S : Nat → Prop} {w W W' : World} {row : Option Nat} (h : Keeps S w W) (hg : W.grownBy W' row) (hr : ∀ r, row = some r → S r) : Keeps S w W' :=
  ⟨hg.os.trans h.os, hg.tape.trans h.tape, hg.output.trans h.output, Nat.le_trans h.size hg.size, fun k hk hn => (hg.block k (Nat.lt_of_lt_of_le hk h.size) (fun e => hn (hr k e.symm))).trans (h.block k hk hn)⟩
theorem keys_of (x : Option Nat) (w : World) : Calls Tryd.prog 27 #[.map x] w fun e w' => e = .returned (.func (.func 39) #[] #[.pointer (some ⟨w.heap.size, 0, none⟩)]) ∧ w' = w.alloc (.cells #[.map x] 54) := by
  go_enter Tryd.func27, Tryd.ntmps27
  go_wp2
  go_ret
  exact ⟨rfl, rfl⟩
/-- the walk stands whatever is laid besides -/
theorem Gives.quiet {n : Nat} (h : Gives n w b L) (hk : Keeps Nowhere w w') : Gives n w' b L := by
  intro l J Jx W hW
  exact h l J Jx W ((hk.bel).trans (hW.mono hk.size))

set_option maxRecDepth 8000 in
set_option maxHeartbeats 1000000 in
theorem app_of (hL : L.length ≤ 1073741824) (G : Gives 2 w b L) :
    Calls Tryd.prog 43 #[.slice none 0 0, .func (.func 39) #[] #[.pointer (some ⟨b, 0, none⟩)]] w fun e w' => ∃ (v : Value) (ss : List Nat), e = .returned v ∧ Aside (ss.Perm (ks L)) ∧ Aside (w'.ownsRow w.heap.size 37 1 v ss.length (ss.map e32)) ∧ Aside (Keeps Nowhere w w') := by
  obtain ⟨W0, hW0⟩ : ∃ W0, W0 = w.alloc (.cells #[.slice none 0 0] 29) := ⟨_, rfl⟩
  have K0 : Aside (Keeps Nowhere w W0) := ⟨by rw [hW0]; exact (Keeps.refl _ _).alloc _⟩
  have B0 : Aside (Boxed W0 w.heap.size 29 (.slice none 0 0)) := ⟨by rw [hW0]; exact Boxed.new _ _ _⟩
  have GG := Aside.mk (G.quiet K0.it)
  have HL := Aside.mk hL
  obtain ⟨i0, hi, hz0, hz1, hz2⟩ := info_parts u32info
  have hlt := B0.it.lt
  have nn := seq_not_nil W0 b
  clear G hL
  refine (callsIn_wide (n := 3)).1 ?_
  refine callsIn_of_wp_marks Tryd.func43 rfl trivial ?_ rfl
  simp only [Tryd.ntmps43, List.size_toArray, List.length_cons, List.length_nil, Nat.reduceAdd, Nat.reduceSub, Array.replicate_succ, Array.replicate_zero, List.push_toArray, List.append_toArray, List.nil_append, List.cons_append]
  gi_wp2_with fail
  rw [← hW0]
  clear hW0 nn
  refine wpIn_rangeFunc_ownF rfl (by decide) (gf := 39) (lb := #[.pointer (some ⟨b, 0, none⟩)]) rfl trivial (enters_of Tryd.func39 (by kernel_rfl) rfl)
    GG.it (fun h k => walksK_t h k) walksK_b (Below.refl _ _) (fun _ => rfl)
    (fun pre W => (∃ v, Boxed W w.heap.size 29 v ∧ W.ownsRow W0.heap.size 37 1 v pre.length (pre.map e32) ∧ True) ∧ Keeps (fun k => k = w.heap.size) W0 W)
    (fun _ _ _ => False) ?hI (fun _ _ _ _ _ hs _ _ => hs) ⟨⟨_, B0.it, World.ownsRow_nil _ _ _ _, trivial⟩, Keeps.refl _ _⟩ ?a1 ?assign ?body ?done ?stop
  case hI => exact OwnFrom.and (Own.from (holdsRow_own W0.heap.size w.heap.size 29 37 1 (fun pre : List Nat => pre.length) (fun pre => pre.map e32) (fun _ _ => True)) _) (ownFrom_keeps _ W0)
  case assign =>
    intro l x W K hK
    gi_wp2
    exact hK
  case stop =>
    intro D c pre W _ _ hx _
    exact hx.elim
  case body =>
    rintro l pre x W ⟨⟨v, hv, hrow, _⟩, hk⟩ hlen
    have hc := hv.cell
    obtain ⟨x0, x1, x2, hx⟩ := owns_shapeK hrow
    subst hx
    have hbd := HL.it
    have s5 : W0.heap.size ≤ W.heap.size := hk.size
    have hrA : (W.alloc (.cells #[e32 x] 37)).ownsRow W0.heap.size 37 1 (.slice x0 x1 x2) pre.length (pre.map e32) := owns_later (S := Nowhere) hrow ((Keeps.refl _ _).alloc _) (fun _ _ x => x)
    obtain ⟨v', w1, hrun, hown', hgrow, _⟩ := run_append_own (P := Tryd.prog) (W.alloc (.cells #[e32 x] 37)) W0.heap.size 29 29 37 i0 _ 1 4 Tryd.underlying29 hi hz0 hz1 hz2 rfl (by decide) (.slice x0 x1 x2) pre.length _ hrA ⟨W.heap.size, 0, none⟩ 1 1 [e32 x] rfl (cell_one_new _ _ _) (by simp [Value.oneCell']) (by unfold maxLen; omega) (by omega) (by have := hk.size; simp; omega)
    obtain ⟨g', cap', rfl⟩ := ownsRow_succ hown'
    have hb1 : Boxed w1 w.heap.size 29 (.slice x0 x1 x2) := Boxed.kept (W := (W.alloc (.cells #[e32 x] 37))) (Boxed.alloc hv _) hgrow (Boxed.not_row (W := (W.alloc (.cells #[e32 x] 37))) (Boxed.alloc hv _) (by decide) hrA)
    have hc1 := hb1.cell
    have hf1 := hb1.frozen
    obtain ⟨_, hbx, _, hko, _⟩ := hv.appended (n₀ := 0) (by decide) (owns_any hrow) (Nat.zero_le _) (Nat.zero_le _) (owns_any hown') hgrow
    have hob : ∀ k, (Value.slice x0 x1 x2).ownBlock = some k → W0.heap.size ≤ k := fun k hk' => owns_base hrow k hk'
    have hkp : ∀ k, k < W.heap.size → k ≠ w.heap.size → k < W0.heap.size → (w1.setCell ⟨w.heap.size, 0, none⟩ (.slice (some ⟨g', 0, none⟩) (pre.length + 1) cap')).heap[k]? = W.heap[k]? := by
      intro k h1 h2 h3
      rw [Below.heap_setCell w1 _ _ k h2]
      rw [hgrow.block k (by simp; omega) (fun e => by have := hob k e.symm; omega)]
      exact Below.heap_alloc W _ k h1
    have FIN : Aside (KeepsOthers W (w1.setCell ⟨w.heap.size, 0, none⟩ (.slice (some ⟨g', 0, none⟩) (pre.length + 1) cap')) ∧ KeepsWalks W (w1.setCell ⟨w.heap.size, 0, none⟩ (.slice (some ⟨g', 0, none⟩) (pre.length + 1) cap')) ∧
        (∃ v, Boxed (w1.setCell ⟨w.heap.size, 0, none⟩ (.slice (some ⟨g', 0, none⟩) (pre.length + 1) cap')) w.heap.size 29 v ∧ (w1.setCell ⟨w.heap.size, 0, none⟩ (.slice (some ⟨g', 0, none⟩) (pre.length + 1) cap')).ownsRow W0.heap.size 37 1 v (pre ++ [x]).length ((pre ++ [x]).map e32) ∧ True) ∧ Keeps (fun k => k = w.heap.size) W0 (w1.setCell ⟨w.heap.size, 0, none⟩ (.slice (some ⟨g', 0, none⟩) (pre.length + 1) cap'))) := ⟨by
      refine ⟨hko, hko.walks, ⟨_, hbx, ?_, trivial⟩, ?_⟩
      · rw [List.map_append, List.length_append]
        exact owns_later hown' (S := fun k => k = w.heap.size) ((Keeps.refl _ _).setCell ⟨w.heap.size, 0, none⟩ (.slice (some ⟨g', 0, none⟩) (pre.length + 1) cap') (fun _ => rfl)) (fun k hk' e => by have := owns_base hown' k hk'; omega)
      · refine ⟨?_, ?_, ?_, ?_, fun k h1 h2 => (hkp k (by omega) h2 h1).trans (hk.block k h1 h2)⟩
        · exact (hgrow.os).trans hk.os
        · exact (hgrow.tape).trans hk.tape
        · exact (hgrow.output).trans hk.output
        · exact Nat.le_trans s5 hko.size⟩
    clear hkp hob hko hbx hrow hv hk hrA hown' hgrow hb1 hbd hi hz0 hz1 hz2 hlen s5 hlt
    gi_wp2
    all_goals exact FIN.it
  case done =>
    rintro D ys W hD hp ⟨⟨v, hv, hrow, _⟩, hk⟩ hK
    have hc := hv.cell
    have HP := Aside.mk hp
    have HR := Aside.mk hrow
    have HK := Aside.mk hk
    have HD := Aside.mk hK
    have N5 := Aside.mk (And.intro hlt hD)
    clear hrow hk hK hi hz0 hz1 hz2 hlt hD hp
    gi_wp2
    refine ⟨by simp, .inl ⟨_, _, rfl, run_takeDeferred HD.it, ?_⟩⟩
    refine ⟨_, results_tmp rfl _ _ _, v, ys, rfl, HP, ⟨?_⟩, ⟨?_⟩⟩
    · have h1 := ownsRow_putObj HR.it (.deferred none) HD.it rfl
      exact owns_mono h1 K0.it.size
    · have k1 : Keeps (fun k => k = w.heap.size ∨ k = D) W0 (W.putObj D (.deferred none)) := keeps_grown' (HK.it.mono (fun k e _ => .inl e)) (grownBy_putObj' _ D (.deferred none)) (fun r e => by cases e; exact .inr rfl)
      exact K0.it.next k1 (fun k e hlt' => by have := N5.it; have := K0.it.size; omega)
theorem coll_of (hL : L.length ≤ 1073741824) (G : Gives 2 w b L) :
    Calls Tryd.prog 37 #[.func (.func 39) #[] #[.pointer (some ⟨b, 0, none⟩)]] w fun e w' => ∃ (v : Value) (ss : List Nat), e = .returned v ∧ Aside (ss.Perm (ks L)) ∧ Aside (w'.ownsRow w.heap.size 37 1 v ss.length (ss.map e32)) ∧ Aside (Keeps Nowhere w w') := by
  have C := Aside.mk (app_of hL G)
  clear G hL
  go_enter Tryd.func37, Tryd.ntmps37
  go_wp2_with (go_at_call 43; refine C.it.mono ?_; rintro e w1 ⟨v, ss, rfl, P1, R1, K1⟩)
  go_ret
  exact ⟨v, ss, rfl, P1, R1, K1⟩
theorem ins_nil (w : World) : Calls Tryd.prog 47 #[.slice none 0 0, .int .i64 0, .int .i64 0] w fun e w' => e = .returned (.tuple #[]) ∧ w' = w := by
  go_enter Tryd.func47, Tryd.ntmps47
  go_wp2
  go_loopw [6] (fun v wr => v = .int .i64 1 ∧ wr = w) (fun _ _ => 0)
  case atStart => exact ⟨rfl, rfl⟩
  case round =>
    obtain ⟨rfl, rfl⟩ := hrel
    go_wp2
    go_end0
    exact ⟨rfl, rfl⟩
theorem pdq_nil (w : World) (l : Int) : Calls Tryd.prog 44 #[.slice none 0 0, .int .i64 0, .int .i64 0, .int .i64 l] w fun e w' => e = .returned (.tuple #[]) ∧ w' = w := by
  have C := Aside.mk (ins_nil w)
  go_enter Tryd.func44, Tryd.ntmps44
  go_wp2
  go_loopw [1, 2, 3, 8, 9] (fun va vb _ _ _ wr => va = .int .i64 0 ∧ vb = .int .i64 0 ∧ wr = w) (fun _ _ _ _ _ _ => 0)
  case atStart => exact ⟨rfl, rfl, rfl⟩
  case round =>
    obtain ⟨rfl, rfl, rfl⟩ := hrel
    go_wp2_with (go_at_call 47; refine C.it.mono ?_; rintro e w' ⟨rfl, rfl⟩)
    (try simp only [Exit.inBlock, Exit.then]); refine bodyPost_ret (results_none rfl _ _ _) rfl ?_
    exact ⟨rfl, rfl⟩
theorem sort_nil (w : World) : Calls Tryd.prog 38 #[.slice none 0 0] w fun e w' => e = .returned (.tuple #[]) ∧ w' = w := by
  have L : Aside (Calls Tryd.prog 45 #[.int .u64 0] w fun e w' => e = .returned (.int .i64 (Lib.bitLen 0 : Nat)) ∧ w' = w) := ⟨Tryd.bits_Len 0 w (by omega) (by omega)⟩
  have C := Aside.mk (pdq_nil w (Lib.bitLen 0 : Nat))
  generalize (Lib.bitLen 0 : Nat) = l at C L
  go_enter Tryd.func38, Tryd.ntmps38
  go_wp2_with (first | (go_at_call 45; refine L.it.mono ?_; rintro e w' ⟨rfl, rfl⟩) | (go_at_call 44; refine C.it.mono ?_; rintro e w' ⟨rfl, rfl⟩))
  go_end0
  exact ⟨rfl, rfl⟩
/-- slices.Sorted over the keys: they rise -/
theorem sorted_of (hu : Up L) (hL : L.length ≤ 1073741824) (G : Gives 2 w b L) :
    Calls Tryd.prog 26 #[.func (.func 39) #[] #[.pointer (some ⟨b, 0, none⟩)]] w fun e w' => ∃ v : Value, e = .returned v ∧ Aside (w'.ownsRow w.heap.size 37 1 v L.length ((ks L).map e32)) ∧ Aside (Keeps Nowhere w w') := by
  have C := Aside.mk (coll_of hL G)
  have HU := Aside.mk hu
  have HL := Aside.mk hL
  clear G hu hL
  go_enter Tryd.func26, Tryd.ntmps26
  go_upto_region 2 with (go_at_call 37; refine C.it.mono ?_; clear C; rintro e w1 ⟨v, ss, rfl, P1, R1, K1⟩)
  have hlen : ss.length = L.length := by rw [P1.it.length_eq, len_ks]
  rcases R1.it.2 with ⟨rfl, h0⟩ | ⟨g, cap, cur, rfl, hbase, _⟩
  · have N := Aside.mk (sort_nil w1)
    have hl0 : L.length = 0 := by omega
    obtain rfl : L = [] := List.eq_nil_of_length_eq_zero hl0
    clear hlen hl0 h0
    go_wp2_with (go_at_call 38; refine N.it.mono ?_; rintro e w2 ⟨rfl, rfl⟩)
    go_ret
    exact ⟨_, rfl, ⟨World.ownsRow_nil _ _ _ _⟩, K1⟩
  · have CS := Aside.mk (sort32 g cap ss w1 (owns_any R1.it) (by have := HL.it; omega))
    have ES := Aside.mk (sort_ks HU.it P1.it)
    have HB := Aside.mk hbase
    rw [hlen] at CS ⊢
    obtain ⟨n, hn⟩ : ∃ n, L.length = n := ⟨_, rfl⟩
    rw [hn] at CS ⊢
    have HN := Aside.mk hn
    clear hlen hbase hn
    go_wp2_with (go_at_call 38; refine CS.it.mono ?_; clear CS; rintro e w2 ⟨rfl, X⟩)
    go_ret
    refine ⟨.slice (some ⟨g, 0, none⟩) n cap, rfl, ⟨?_⟩, ⟨K1.it.next X.it.2 (fun k e hlt => by have := HB.it; omega)⟩⟩
    have r := X.it.1
    rw [ES.it] at r
    rw [HN.it]
    exact owns_rebase r HB.it
end Go.Proofs.YtnmpnajmhfonhaaDoor.Pg
