/-
  package backlog: Put, List
-/
import Derived.Test.YtolmiecbgkdlfaaDoorBkD
namespace Go.Proofs.YtolmiecbgkdlfaaDoor
open Go.RowKit Go.Shelf Fuint32
attribute [local go_sem] Oper.semAt_some
attribute [-go_sem] Builtin.append_

variable {A : Nat → Addr} {w w' W w0 : World} {own own' : Nat → Nat} {i p fp most : Nat} {L L' : List Nat} {v v' : Value} {first : Nat} {gone : List Value} {I : Nat → Prop}

abbrev e32 (x : Nat) : Value := .int .u32 (x : Nat)
theorem u32info : (Tryd.prog.info? 34).map (fun i => (i.zero, i.size, i.bytes)) = some (some (.int .u32 0), 1, 4) := by kernel_rfl
theorem owns_mono {base base' : Nat} {e : TypeId} {k n : Nat} {v : Value} {xs : List Value} (h : w.ownsRow base e k v n xs) (hb : base' ≤ base) : w.ownsRow base' e k v n xs := by
  refine ⟨h.1, ?_⟩
  rcases h.2 with h0 | ⟨g, cap, cur, rfl, hg, rest⟩
  · exact .inl h0
  · exact .inr ⟨g, cap, cur, rfl, Nat.le_trans hb hg, rest⟩
theorem qn_firsts (L : List Nat) : (qn L).map (fun y => e32 y.1) = L.map e32 := by
  rw [qn, List.map_map]
  rfl
set_option maxRecDepth 8000 in
set_option maxHeartbeats 1000000 in
theorem blist_of (x : Value) (fv : Option Addr) (hL : L.length ≤ 1024) (PT : Pt w x fv) (AL : Al w fv L) :
    Calls Tryd.prog 14 #[x] w fun e w' => ∃ v, e = .returned v ∧ Aside (w'.ownsRow w.heap.size 34 1 v L.length (L.map e32)) ∧ Aside (Keeps Nowhere w w') := by
  obtain ⟨W0, hW0⟩ : ∃ W0, W0 = w.alloc (.cells #[.slice none 0 0] 29) := ⟨_, rfl⟩
  have K0 : Aside (Keeps Nowhere w W0) := ⟨by rw [hW0]; exact (Keeps.refl _ _).alloc _⟩
  have B0 : Aside (Boxed W0 w.heap.size 29 (.slice none 0 0)) := ⟨by rw [hW0]; exact Boxed.new _ _ _⟩
  have QQ := Aside.mk (PT W0 K0.it)
  have AA := Aside.mk (fun W k => AL W (K0.it.trans k))
  have HL := Aside.mk hL
  have F0 := bk_f0 fv
  obtain ⟨i0, hi, hz0, hz1, hz2⟩ := info_parts u32info
  clear PT AL hL
  refine (callsIn_wide (n := 3)).1 ?_
  refine callsIn_of_wp_marks Tryd.func14 rfl trivial ?_ rfl
  simp only [Tryd.ntmps14, List.size_toArray, List.length_cons, List.length_nil, Nat.reduceAdd, Nat.reduceSub, Array.replicate_succ, Array.replicate_zero, List.push_toArray, List.append_toArray, List.nil_append, List.cons_append]
  gi_wp2_with fail
  rw [← hW0]
  clear hW0
  refine ⟨trivial, ?_⟩
  refine (callsIn_wide.2 QQ.it).mono ?_
  rintro e w1 ⟨rfl, K1⟩
  gi_wp2_with fail
  refine ⟨trivial, ?_⟩
  refine (callsIn_wide.2 (AA.it w1 K1.it)).mono ?_
  rintro e w5 ⟨b, rfl, W5, k5⟩
  have nn := walk_not_nil w5 b
  gi_wp2_with fail
  obtain ⟨B, hB, hBk⟩ := W5.it.kept 2 (by decide) (by have := HL.it; rw [qn_len]; omega)
  have KB := Aside.mk (K1.it.trans k5.it)
  have BX := Aside.mk (B0.it.kept (row := none) ⟨KB.it.os, KB.it.tape, KB.it.output, KB.it.size, fun k hk _ => KB.it.block k hk (fun x => x)⟩ (by simp))
  have hlt := BX.it.lt
  have h0w : w.heap.size < w1.heap.size := Nat.lt_of_lt_of_le B0.it.lt K1.it.size
  clear nn F0
  refine wpIn_rangeFunc_ownF rfl (by decide) (gf := 40) (lb := #[.pointer (some ⟨b, 0, none⟩)]) rfl trivial (enters_of Tryd.func40 (by kernel_rfl) rfl)
    hB kept_t (kept_b (fun k hk => (hBk k hk).2)) (Below.refl _ _) (fun _ => rfl)
    (fun pre W => (∃ v, Boxed W w.heap.size 29 v ∧ W.ownsRow w5.heap.size 34 1 v pre.length (pre.map (fun y => e32 y.1)) ∧ True) ∧ Keeps (fun k => k = w.heap.size) w5 W)
    (fun _ _ _ => False) ?hI (fun _ _ _ _ _ hs _ _ => hs) ⟨⟨_, BX.it, World.ownsRow_nil _ _ _ _, trivial⟩, Keeps.refl _ _⟩ ?a1 ?assign ?body ?done ?stop
  case hI => exact OwnFrom.and (Own.from (holdsRow_own w5.heap.size w.heap.size 29 34 1 (fun pre : List (El × Nat) => pre.length) (fun pre => pre.map (fun y => e32 y.1)) (fun _ _ => True)) _) (ownFrom_keeps _ w5)
  case assign =>
    intro l x W K hK
    gi_wp2
    exact hK
  case stop =>
    intro D c pre W _ _ hx _
    exact hx.elim
  case body =>
    rintro l pre x W ⟨⟨v, hv, hrow, _⟩, hk⟩ hlen
    have hc := hv.cell
    obtain ⟨x0, x1, x2, hx⟩ := owns_shapeK hrow
    subst hx
    rw [qn_len] at hlen
    have hbd := HL.it
    have s5 : w5.heap.size ≤ W.heap.size := hk.size
    have hrA : (W.alloc (.cells #[e32 x.1] 34)).ownsRow w5.heap.size 34 1 (.slice x0 x1 x2) pre.length (pre.map (fun y => e32 y.1)) := owns_later (S := Nowhere) hrow ((Keeps.refl _ _).alloc _) (fun _ _ x => x)
    obtain ⟨v', w1, hrun, hown', hgrow, _⟩ := run_append_own (P := Tryd.prog) (W.alloc (.cells #[e32 x.1] 34)) w5.heap.size 29 29 34 i0 _ 1 4 Tryd.underlying29 hi hz0 hz1 hz2 rfl (by decide) (.slice x0 x1 x2) pre.length _ hrA ⟨W.heap.size, 0, none⟩ 1 1 [e32 x.1] rfl (cell_one_new _ _ _) (by simp [Value.oneCell']) (by unfold maxLen; omega) (by omega) (by have := hk.size; simp; omega)
    obtain ⟨g', cap', rfl⟩ := ownsRow_succ hown'
    have hb1 : Boxed w1 w.heap.size 29 (.slice x0 x1 x2) := Boxed.kept (W := (W.alloc (.cells #[e32 x.1] 34))) (Boxed.alloc hv _) hgrow (Boxed.not_row (W := (W.alloc (.cells #[e32 x.1] 34))) (Boxed.alloc hv _) (by decide) hrA)
    have hc1 := hb1.cell
    have hf1 := hb1.frozen
    obtain ⟨_, hbx, _, hko, _⟩ := hv.appended (n₀ := 0) (by decide) (owns_any hrow) (Nat.zero_le _) (Nat.zero_le _) (owns_any hown') hgrow
    have hob : ∀ k, (Value.slice x0 x1 x2).ownBlock = some k → w5.heap.size ≤ k := fun k hk' => owns_base hrow k hk'
    have hkp : ∀ k, k < W.heap.size → k ≠ w.heap.size → k < w5.heap.size → (w1.setCell ⟨w.heap.size, 0, none⟩ (.slice (some ⟨g', 0, none⟩) (pre.length + 1) cap')).heap[k]? = W.heap[k]? := by
      intro k h1 h2 h3
      rw [Below.heap_setCell w1 _ _ k h2]
      rw [hgrow.block k (by simp; omega) (fun e => by have := hob k e.symm; omega)]
      exact Below.heap_alloc W _ k h1
    have FIN : Aside (KeepsOthers W (w1.setCell ⟨w.heap.size, 0, none⟩ (.slice (some ⟨g', 0, none⟩) (pre.length + 1) cap')) ∧ KeptAt B W (w1.setCell ⟨w.heap.size, 0, none⟩ (.slice (some ⟨g', 0, none⟩) (pre.length + 1) cap')) ∧
        (∃ v, Boxed (w1.setCell ⟨w.heap.size, 0, none⟩ (.slice (some ⟨g', 0, none⟩) (pre.length + 1) cap')) w.heap.size 29 v ∧ (w1.setCell ⟨w.heap.size, 0, none⟩ (.slice (some ⟨g', 0, none⟩) (pre.length + 1) cap')).ownsRow w5.heap.size 34 1 v (pre ++ [x]).length ((pre ++ [x]).map (fun y => e32 y.1)) ∧ True) ∧ Keeps (fun k => k = w.heap.size) w5 (w1.setCell ⟨w.heap.size, 0, none⟩ (.slice (some ⟨g', 0, none⟩) (pre.length + 1) cap'))) := ⟨by
      refine ⟨hko, fun k hk' => ?_, ⟨_, hbx, ?_, trivial⟩, ?_⟩
      · have h1 := hBk k hk'
        exact hkp k (by omega) (by omega) h1.2
      · rw [List.map_append, List.length_append]
        exact owns_later hown' (S := fun k => k = w.heap.size) ((Keeps.refl _ _).setCell ⟨w.heap.size, 0, none⟩ (.slice (some ⟨g', 0, none⟩) (pre.length + 1) cap') (fun _ => rfl)) (fun k hk' e => by have := owns_base hown' k hk'; omega)
      · refine ⟨?_, ?_, ?_, ?_, fun k h1 h2 => (hkp k (by omega) h2 h1).trans (hk.block k h1 h2)⟩
        · exact (hgrow.os).trans hk.os
        · exact (hgrow.tape).trans hk.tape
        · exact (hgrow.output).trans hk.output
        · exact Nat.le_trans s5 hko.size⟩
    clear hkp hob hko hbx hrow hv hk hrA hown' hgrow hb1 hbd hi hz0 hz1 hz2 hlen s5 hlt h0w hB
    gi_wp2
    all_goals exact FIN.it
  case done =>
    rintro D ys W hD rfl ⟨⟨v, hv, hrow, _⟩, hk⟩ hK
    have hc := hv.cell
    have HR := Aside.mk hrow
    have HK := Aside.mk hk
    have HD := Aside.mk hK
    have N5 := Aside.mk (And.intro hlt (And.intro h0w hD))
    clear hrow hk hK hi hz0 hz1 hz2 hlt h0w hB hD
    gi_wp2
    refine ⟨by simp, .inl ⟨_, _, rfl, run_takeDeferred HD.it, ?_⟩⟩
    refine ⟨_, results_tmp rfl _ _ _, v, rfl, ⟨?_⟩, ⟨?_⟩⟩
    · have h1 := ownsRow_putObj HR.it (.deferred none) HD.it rfl
      rw [qn_len, qn_firsts] at h1
      exact owns_mono h1 (Nat.le_trans K0.it.size KB.it.size)
    · have k1 : Keeps (fun k => k = w.heap.size ∨ k = D) w5 (W.putObj D (.deferred none)) := keeps_grown' (HK.it.mono (fun k e _ => .inl e)) (grownBy_putObj' _ D (.deferred none)) (fun r e => by cases e; exact .inr rfl)
      exact (K0.it.trans KB.it).next k1 (fun k e hlt' => by have := N5.it; have := (K0.it.trans KB.it).size; omega)
theorem blist_nil (w : World) : Calls Tryd.prog 14 #[.pointer none] w fun e w' => ∃ v, e = .returned v ∧ Aside (w'.ownsRow w.heap.size 34 1 v 0 []) ∧ Aside (Keeps Nowhere w w') :=
  blist_of (L := []) _ none (by simp) (Pt.nil w) (Al.nil w)
theorem blist (h : BkO own i w p most L) : Calls Tryd.prog 14 #[ptr p] w fun e w' => ∃ v, e = .returned v ∧ Aside (w'.ownsRow w.heap.size 34 1 v L.length (L.map e32)) ∧ Aside (Keeps Nowhere w w') := by
  have hl := h.len
  obtain ⟨fp, v, f, g, h, _⟩ := h
  exact blist_of _ _ (by omega) (Pt.at h.box) (Al.at h)
end Go.Proofs.YtolmiecbgkdlfaaDoor
