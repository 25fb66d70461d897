/-
  package lane: List
-/
import Derived.Test.YtnohcbdnhpaafaaDoorLnD
import Derived.Test.YtnohcbdnhpaafaaDoorQueDticket
import Derived.RangeFuncBox
import Derived.Maps.AppendAt
namespace Go.Proofs.YtnohcbdnhpaafaaDoor
open Go.RowKit Go.Shelf Fticket
attribute [local go_sem] Oper.semAt_some
attribute [-go_sem] Builtin.append_

variable {A : Nat → Addr} {w w' w0 : World} {own own' : Nat → Nat} {i p fp mb m : Nat} {I : Nat → Prop} {F : Int → Nat → Option Nat} {Z : Zs}

def flatT (L : List Tk) : List Value := L.flatMap tcells
theorem flatT_snoc (L : List Tk) (t : Tk) : flatT (L ++ [t]) = flatT L ++ tcells t := by simp [flatT]
theorem flatT_len (L : List Tk) : (flatT L).length = L.length * 3 := by
  induction L with
  | nil => rfl
  | cons t L ih => simp [flatT, List.flatMap_cons] at ih ⊢; omega
theorem infoT : (Tryd.prog.info? 29).map (fun i => (i.zero, i.size, i.bytes)) = some (some (.agg #[.int .i64 0, .int .u32 0, .int .u32 0]), 3, 16) := by kernel_rfl
abbrev Az (Z : Zs) := { y : Nat × Tk // y ∈ Z }
abbrev fz (y : Az Z) : Nat × Nat := (y.1.1, 0)
theorem qz_attach (Z : Zs) : qz Z = Z.attach.map fz := by
  rw [show (fz : Az Z → Nat × Nat) = (fun x : Nat × Tk => (x.1, 0)) ∘ Subtype.val from rfl, ← List.map_map, List.attach_map_subtype_val]
  rfl
theorem cells3_new (w : World) (x y z : Value) (t : TypeId) : ∀ j u, [x, y, z][j]? = some u → (w.alloc (.cells #[x, y, z] t)).cell? ((⟨w.heap.size, 0, none⟩ : Addr).add j) = some u := by
  intro j u hj
  rw [add_none, Nat.zero_add]
  have := (Cells.new w t [x, y, z]).cell j
  rw [hj] at this
  exact this
theorem owns_mono {base base' : Nat} {e : TypeId} {k n : Nat} {v : Value} {xs : List Value} (h : w.ownsRow base e k v n xs) (hb : base' ≤ base) : w.ownsRow base' e k v n xs := by
  refine ⟨h.1, ?_⟩
  rcases h.2 with h0 | ⟨g, cap, cur, rfl, hg, rest⟩
  · exact .inl h0
  · exact .inr ⟨g, cap, cur, rfl, Nat.le_trans hb hg, rest⟩
theorem keeps_grown' {S : Nat → Prop} {w W W' : World} {row : Option Nat} (h : Keeps S w W) (hg : W.grownBy W' row) (hr : ∀ r, row = some r → S r) : Keeps S w W' :=
  h.next (S' := fun k => row = some k) ⟨hg.os, hg.tape, hg.output, hg.size, fun k hk hn => hg.block k hk (fun e => hn e.symm)⟩ (fun k e _ => hr k e)
set_option maxRecDepth 8000 in
set_option maxHeartbeats 1000000 in
theorem list_of (x fv : Value) (Z : Zs) (hZ : Z.length * 16 ≤ 140737488355328) (T : ∀ y ∈ Z, Cells w y.1 29 (tcells y.2))
    (QU : ∀ W, Keeps Nowhere w W → Calls Tryd.prog 53 #[x] W fun e w' => e = .returned fv ∧ w' = W)
    (AL : ∀ W, Keeps Nowhere w W → Calls Tryd.prog 54 #[fv] W fun e w' => ∃ b, e = .returned (.func (.func 70) #[] #[.pointer (some ⟨b, 0, none⟩)]) ∧ Aside (WalkAt W.heap.size w' (.func (.func 70) #[] #[.pointer (some ⟨b, 0, none⟩)]) (qz Z)) ∧ Aside (Keeps Nowhere W w')) :
    Calls Tryd.prog 30 #[x] w fun e w' => ∃ v, e = .returned v ∧ Aside (w'.ownsRow w.heap.size 29 3 v Z.length (flatT (Z.map (·.2)))) ∧ Aside (Keeps Nowhere w w') := by
  obtain ⟨W0, hW0⟩ : ∃ W0, W0 = w.alloc (.cells #[.slice none 0 0] 37) := ⟨_, rfl⟩
  have K0 : Aside (Keeps Nowhere w W0) := ⟨by rw [hW0]; exact (Keeps.refl _ _).alloc _⟩
  have B0 : Aside (Boxed W0 w.heap.size 37 (.slice none 0 0)) := ⟨by rw [hW0]; exact Boxed.new _ _ _⟩
  have QQ := Aside.mk (QU W0 K0.it)
  have AA := Aside.mk (AL W0 K0.it)
  have HZ := Aside.mk hZ
  have HT := Aside.mk T
  obtain ⟨i0, hi, hz0, hz1, hz2⟩ := info_parts infoT
  clear QU AL hZ T
  refine (callsIn_wide (n := 3)).1 ?_
  refine callsIn_of_wp_marks Tryd.func30 rfl trivial ?_ rfl
  simp only [Tryd.ntmps30, List.size_toArray, List.length_cons, List.length_nil, Nat.reduceAdd, Nat.reduceSub, Array.replicate_succ, Array.replicate_zero, List.push_toArray, List.append_toArray, List.nil_append, List.cons_append]
  gi_wp2_with fail
  rw [← hW0]
  clear hW0
  refine ⟨trivial, ?_⟩
  refine (callsIn_wide.2 QQ.it).mono ?_
  rintro e w1 ⟨rfl, hw1⟩
  subst hw1
  gi_wp2_with fail
  refine ⟨trivial, ?_⟩
  refine (callsIn_wide.2 AA.it).mono ?_
  rintro e w5 ⟨b, rfl, W5, k5⟩
  have nn := walk_not_nil w5 b
  gi_wp2_with fail
  obtain ⟨B, hB, hBk⟩ := W5.it.keptG fz Z.attach 2 (by decide) (by have := HZ.it; rw [qz_len]; omega) (qz_attach Z)
  have BX := Aside.mk (B0.it.kept (row := none) ⟨k5.it.os, k5.it.tape, k5.it.output, k5.it.size, fun k hk _ => k5.it.block k hk (fun x => x)⟩ (by simp))
  have hlt := BX.it.lt
  have h0w : w.heap.size < w1.heap.size := B0.it.lt
  clear nn
  refine wpIn_rangeFunc_ownF rfl (by decide) (gf := 70) (lb := #[.pointer (some ⟨b, 0, none⟩)]) rfl trivial (enters_of Tryd.func70 (by kernel_rfl) rfl)
    hB kept_t (kept_b (fun k hk => (hBk k hk).2)) (Below.refl _ _) (fun _ => rfl)
    (fun pre W => (∃ v, Boxed W w.heap.size 37 v ∧ W.ownsRow w5.heap.size 29 3 v pre.length (flatT (pre.map (·.1.2))) ∧ True) ∧ Keeps (fun k => k = w.heap.size) w5 W)
    (fun _ _ _ => False) ?hI (fun _ _ _ _ _ hs _ _ => hs) ⟨⟨_, BX.it, World.ownsRow_nil _ _ _ _, trivial⟩, Keeps.refl _ _⟩ ?a1 ?assign ?body ?done ?stop
  case hI => exact OwnFrom.and (Own.from (holdsRow_own w5.heap.size w.heap.size 37 29 3 (fun pre : List (Az Z) => pre.length) (fun pre => flatT (pre.map (·.1.2))) (fun _ _ => True)) _) (ownFrom_keeps _ w5)
  case assign =>
    intro l x W K hK
    gi_wp2
    exact hK
  case stop =>
    intro D c pre W _ _ hx _
    exact hx.elim
  case body =>
    rintro l pre x W ⟨⟨v, hv, hrow, _⟩, hk⟩ hlen
    have hc := hv.cell
    obtain ⟨x0, x1, x2, hx⟩ := owns_shapeK hrow
    subst hx
    have hT := HT.it x.1 x.2
    have ht := (hT.later K0.it (fun x => x)).later k5.it (fun x => x)
    have hne : x.1.1 ≠ w.heap.size := fun e => by have := hT.lt; omega
    obtain ⟨b0, b1, b2⟩ := TB.of (ht.later hk hne)
    rw [qz_len] at hlen
    have hbd := HZ.it
    have HR := Aside.mk hrow
    have HV := Aside.mk hv
    have HK := Aside.mk hk
    have s5 : w5.heap.size ≤ W.heap.size := hk.size
    have hrA : (W.alloc (tbox x.1.2.k x.1.2.s x.1.2.v)).drew.ownsRow w5.heap.size 29 3 (.slice x0 x1 x2) pre.length (flatT (pre.map (·.1.2))) := owns_later (S := Nowhere) hrow ((Keeps.refl _ _).alloc _).drew (fun _ _ x => x)
    obtain ⟨v', w1, hrun, hown', hgrow, _⟩ := run_append_own (P := Tryd.prog) (W.alloc (tbox x.1.2.k x.1.2.s x.1.2.v)).drew w5.heap.size 37 37 29 i0 _ 3 16 Tryd.underlying37 hi hz0 hz1 hz2 rfl (by decide) (.slice x0 x1 x2) pre.length _ hrA ⟨W.heap.size, 0, none⟩ 1 1 (tcells x.1.2) rfl (cells3_new W _ _ _ _) (by simp [tcells, Value.oneCell']) (by unfold maxLen; omega) (by omega) (by have := hk.size; simp; omega)
    obtain ⟨g', cap', rfl⟩ := ownsRow_succ hown'
    have hb1 : Boxed w1 w.heap.size 37 (.slice x0 x1 x2) := Boxed.kept (W := (W.alloc (tbox x.1.2.k x.1.2.s x.1.2.v)).drew) (Boxed.alloc hv _) hgrow (Boxed.not_row (W := (W.alloc (tbox x.1.2.k x.1.2.s x.1.2.v)).drew) (Boxed.alloc hv _) (by decide) hrA)
    have hc1 := hb1.cell
    have hf1 := hb1.frozen
    have HG := Aside.mk hgrow
    have HO := Aside.mk hown'
    have HB1 := Aside.mk hb1
    have d0 : W.drew.cell? ⟨w.heap.size, 0, none⟩ = some (.slice x0 x1 x2) := hc
    have d1 : (W.alloc (tbox x.1.2.k x.1.2.s x.1.2.v)).drew.cell? ⟨w.heap.size, 0, none⟩ = some (.slice x0 x1 x2) := (Boxed.alloc hv _).cell
    have hg2 : (W.alloc (tbox x.1.2.k x.1.2.s x.1.2.v)).grownBy w1 (Value.slice x0 x1 x2).ownBlock := ⟨hgrow.os, hgrow.tape, hgrow.output, hgrow.size, hgrow.block⟩
    obtain ⟨_, hbx, _, hko, _⟩ := hv.appended (n₀ := 0) (by decide) (owns_any hrow) (Nat.zero_le _) (Nat.zero_le _) (owns_any hown') hg2
    have hob : ∀ k, (Value.slice x0 x1 x2).ownBlock = some k → w5.heap.size ≤ k := fun k hk' => owns_base hrow k hk'
    have hkp : ∀ k, k < W.heap.size → k ≠ w.heap.size → k < w5.heap.size → (w1.setCell ⟨w.heap.size, 0, none⟩ (.slice (some ⟨g', 0, none⟩) (pre.length + 1) cap')).heap[k]? = W.heap[k]? := by
      intro k h1 h2 h3
      rw [Below.heap_setCell w1 _ _ k h2]
      rw [hg2.block k (by simp; omega) (fun e => by have := hob k e.symm; omega)]
      exact Below.heap_alloc W _ k h1
    have FIN : Aside (KeepsOthers W (w1.setCell ⟨w.heap.size, 0, none⟩ (.slice (some ⟨g', 0, none⟩) (pre.length + 1) cap')) ∧ KeptAt B W (w1.setCell ⟨w.heap.size, 0, none⟩ (.slice (some ⟨g', 0, none⟩) (pre.length + 1) cap')) ∧
        (∃ v, Boxed (w1.setCell ⟨w.heap.size, 0, none⟩ (.slice (some ⟨g', 0, none⟩) (pre.length + 1) cap')) w.heap.size 37 v ∧ (w1.setCell ⟨w.heap.size, 0, none⟩ (.slice (some ⟨g', 0, none⟩) (pre.length + 1) cap')).ownsRow w5.heap.size 29 3 v (pre ++ [x]).length (flatT ((pre ++ [x]).map (·.1.2))) ∧ True) ∧ Keeps (fun k => k = w.heap.size) w5 (w1.setCell ⟨w.heap.size, 0, none⟩ (.slice (some ⟨g', 0, none⟩) (pre.length + 1) cap'))) := ⟨by
      refine ⟨hko, fun k hk' => ?_, ⟨_, hbx, ?_, trivial⟩, ?_⟩
      · have h1 := hBk k hk'
        exact hkp k (by omega) (by omega) h1.2
      · rw [List.map_append, List.length_append]
        have h1 := owns_later hown' (S := fun k => k = w.heap.size) ((Keeps.refl _ _).setCell ⟨w.heap.size, 0, none⟩ (.slice (some ⟨g', 0, none⟩) (pre.length + 1) cap') (fun _ => rfl)) (fun k hk' e => by have := owns_base hown' k hk'; omega)
        rw [show flatT (pre.map (·.1.2) ++ [x].map (·.1.2)) = flatT (pre.map (·.1.2)) ++ tcells x.1.2 from flatT_snoc _ _]
        exact h1
      · refine ⟨?_, ?_, ?_, ?_, fun k h1 h2 => (hkp k (by omega) h2 h1).trans (hk.block k h1 h2)⟩
        · exact (hg2.os).trans hk.os
        · exact (hg2.tape).trans hk.tape
        · exact (hg2.output).trans hk.output
        · exact Nat.le_trans s5 hko.size⟩
    have HN := Aside.mk (And.intro hlen (And.intro s5 (And.intro hlt h0w)))
    clear hkp hob hko hbx hg2
    clear hrow hv hk hT ht hrA hown' hgrow hb1 hbd hi hz0 hz1 hz2 hlen s5 hlt h0w hB hne
    gi_wp2_with fail
    gi_region
    all_goals gi_wp2
    all_goals exact FIN.it
  case done =>
    rintro D ys W hD rfl ⟨⟨v, hv, hrow, _⟩, hk⟩ hK
    have hc := hv.cell
    have HR := Aside.mk hrow
    have HK := Aside.mk hk
    have HD := Aside.mk hK
    have hlen : (Z.attach).length = Z.length := List.length_attach
    have hmap : (Z.attach).map (fun y : Az Z => y.1.2) = Z.map (·.2) := by
      rw [show (fun y : Az Z => y.1.2) = (fun x : Nat × Tk => x.2) ∘ Subtype.val from rfl, ← List.map_map, List.attach_map_subtype_val]
    have HE := Aside.mk (And.intro hlen hmap)
    have N5 := Aside.mk (And.intro hlt h0w)
    clear hrow hk hK hlen hmap hi hz0 hz1 hz2 hlt h0w hB
    gi_wp2
    refine ⟨by simp, .inl ⟨_, _, rfl, run_takeDeferred HD.it, ?_⟩⟩
    refine ⟨_, results_tmp rfl _ _ _, v, rfl, ⟨?_⟩, ⟨?_⟩⟩
    · have h1 := ownsRow_putObj HR.it (.deferred none) HD.it rfl
      rw [HE.it.1, HE.it.2] at h1
      exact owns_mono h1 (Nat.le_trans K0.it.size k5.it.size)
    · have k1 : Keeps (fun k => k = w.heap.size ∨ k = D) w5 (W.putObj D (.deferred none)) := keeps_grown' (HK.it.mono (fun k e _ => .inl e)) (grownBy_putObj' _ D (.deferred none)) (fun r e => by cases e; exact .inr rfl)
      exact (K0.it.trans k5.it).next k1 (fun k e hlt' => by have := N5.it; omega)
theorem list_nil (w : World) : Calls Tryd.prog 30 #[.pointer none] w fun e w' => ∃ v, e = .returned v ∧ Aside (w'.ownsRow w.heap.size 29 3 v 0 (flatT [])) ∧ Aside (Keeps Nowhere w w') :=
  list_of _ _ [] (by decide) (fun y hy => by cases hy) (fun W _ => queue_nil W) (fun W _ => all_nil W)
theorem list_at (h : LnO own i w p Z m) (hm : m ≤ 8796093022208) : Calls Tryd.prog 30 #[ptr p] w fun e w' => ∃ v, e = .returned v ∧ Aside (w'.ownsRow w.heap.size 29 3 v Z.length (flatT (Z.map (·.2)))) ∧ Aside (Keeps Nowhere w w') := by
  obtain ⟨fp, mb, F, h⟩ := h
  have hl := FifoM.room h.fifo
  rw [qz_len] at hl
  refine list_of _ (ptr fp) Z (by omega) (fun y hy => (h.tks y hy).1) (fun W k => queue_at W p fp (by rw [(h.quiet k).box.1.cell]; rfl)) (fun W k => ?_)
  obtain ⟨v, f, g, h1, _⟩ := (h.quiet k).fifo
  exact all_in h1 (by rw [qz_len]; simp only [by']; omega)
end Go.Proofs.YtnohcbdnhpaafaaDoor
