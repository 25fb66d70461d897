/-
  package handles: On
-/
import Derived.Test.YtjloedcikcamkaaDoorHnC
import Derived.Test.YtjloedcikcamkaaDoorRdI
import Derived.Test.YtjloedcikcamkaaDoorShelf
import Derived.OwnWalk
import Derived.Maps.AppendAt
import Derived.Maps.RangeWalk
import Derived.MapKept
import Derived.Sort.KeysCollected
import Derived.Sort.OwnSortedInts
namespace Go.Proofs.YtjloedcikcamkaaDoor
open Go.RowKit Go.Maps Go.Sort

variable {own own' : Nat → Nat} {i p g : Nat} {w w' : World} {L : Hl} {I : Nat → Prop} {A : Nat → Addr} {z : Int} {x : Pl} {c l : Int}

/-- what was met so far -/
def CollH (L : Hl) (c l : Int) (left : Lit → Bool) (ss : List Int) : Prop := ss.Nodup ∧ ∀ x, x ∈ ss ↔ (Zw x ∧ x ∈ honL L c l ∧ left (kI x) = false)
theorem CollH.start {D : DataW Value} (ho : HOk g L) (h : ∀ k, Zw k → Maps.has D (kI k) = (hfind L k).isSome) : CollH L c l (Maps.has D) [] := by
  refine ⟨List.nodup_nil, fun x => ⟨(fun hx => by cases hx), fun hx => ?_⟩⟩
  obtain ⟨h1, h2, h3⟩ := hx
  obtain ⟨q, hq, _⟩ := (hon_mem ho c l x).1 h2
  rw [h x h1, hq] at h3
  cases h3
theorem kI_same {x y : Int} : (kI y).sameKey (kI x) = decide (y = x) := by simp [kI, Lit.sameKey]
theorem CollH.step {left : Lit → Bool} {ss : List Int} (h : CollH L c l left ss) {x : Int} (hx : Zw x) (hl : left (kI x) = true) (hs : x ∈ honL L c l) : CollH L c l (fun z => left z && !z.sameKey (kI x)) (ss ++ [x]) := by
  have hnew : x ∉ ss := fun hm => by have := ((h.2 x).1 hm).2.2; rw [hl] at this; cases this
  refine ⟨List.nodup_append.2 ⟨h.1, by simp, fun a ha b hb => by simp at hb; subst hb; exact fun e => hnew (e ▸ ha)⟩, fun y => ?_⟩
  by_cases hy : y = x
  · subst hy
    simp [hx, hs, kI_same]
  · simp [h.2 y, hy, kI_same]
theorem CollH.pass {left : Lit → Bool} {ss : List Int} (h : CollH L c l left ss) {x : Int} (hs : x ∉ honL L c l) : CollH L c l (fun z => left z && !z.sameKey (kI x)) ss := by
  refine ⟨h.1, fun y => ?_⟩
  by_cases hy : y = x
  · subst hy
    simp [h.2 y, hs]
  · simp [h.2 y, hy, kI_same]
theorem CollH.perm {left : Lit → Bool} {ss : List Int} (h : CollH L c l left ss) (ho : HOk g L) (hl : ∀ z, left z = false) : ss.Perm (honL L c l) := by
  refine (List.perm_ext_iff_of_nodup h.1 ((hon_up ho c l).imp (fun h => by omega))).2 (fun x => ?_)
  rw [h.2 x, hl]
  refine ⟨fun h => h.2.1, fun hx => ⟨?_, hx, rfl⟩⟩
  obtain ⟨q, hq, _⟩ := (hon_mem ho c l x).1 hx
  have := ho.b _ (hfind_mem hq)
  have hm := ho.m
  exact ⟨by omega, by omega⟩
theorem intinfo : (Tryd.prog.info? 3).map (fun i => (i.zero, i.size, i.bytes)) = some (some (.int .i64 0), 1, 8) := by kernel_rfl
theorem kgrown {w w' : World} (h : Keeps Nowhere w w') : w.grownBy w' none := ⟨h.os, h.tape, h.output, h.size, fun k hk _ => h.block k hk (fun x => x)⟩
/-- a row that the call made: nil, or of its own -/
def RwI (w : World) (w' : World) (v : Value) (zs : List Int) : Prop := w'.ownsRow w.heap.size 3 1 v zs.length (zs.map (Value.int .i64))
set_option maxRecDepth 100000 in
set_option maxHeartbeats 2000000 in
theorem on_at (h : HnO own i w p g L) (c l : Int) : Calls Tryd.prog 18 #[ptr p, .int .i64 c, .int .i64 l] w fun e w' => ∃ v, e = .returned v ∧ Aside (RwI w w' v (honL L c l)) ∧ Aside (Keeps Nowhere w w') := by
  have ho := h.ok
  have LU := ho.len
  have GM := ho.m
  obtain ⟨mb, qb, hc, hm, hq, hb, hd, hne⟩ := h.it
  have hmbl := hm.lt
  have PR := Aside.mk (parts_raw hc.1)
  obtain ⟨D, hown, hsz, hat⟩ := hm
  obtain ⟨i0, hi, hz0, hz1, hz2⟩ := info_parts intinfo
  have C0 := Aside.mk (CollH.start (L := L) (c := c) (l := l) (D := D) ho (fun k hk => (hat k hk).2))
  have HAT := Aside.mk hat
  have HO := Aside.mk ho
  have fl := fld1 (.int .i64 g) (.map (some mb)) (.map (some qb))
  obtain ⟨n, hn⟩ : ∃ n, L.length = n := ⟨_, rfl⟩
  rw [hn] at hown hsz LU
  clear h hc ho hat hn hb hq hd hne
  go_enter Tryd.func18, Tryd.ntmps18
  go_wp2_with (first
    | (go_at_call 26; refine PR.it.mono ?_; rintro e w3 ⟨rfl, K3⟩)
    | (at_range; refine wpList_range_own _ rfl _ 59 rfl 3 33 keyed_int Tryd.underlying59 RhP mb n D rfl (hown.kept (kgrown K3.it) (by simp)) ?_; intro w4 hrg4 hg4 hs4)
    | go_in)
  go_frame
  rw [hsz] at hrg4
  have K4 : Aside (Keeps Nowhere w w4) := ⟨K3.it.trans (Keeps.mk hg4.os hg4.tape hg4.output hg4.size (fun k hk _ => hg4.block k hk (fun e => by cases e)))⟩
  have hw3 : w.heap.size ≤ w3.heap.size := K3.it.size
  clear hs4
  go_loopw [7] (fun v wr => ∃ (left : Lit → Bool) (cnt : Nat) (ss : List Int), wr.ranges Tryd.prog 3 RhP mb w3.heap.size n D left cnt ∧ ss.length + cnt ≤ n ∧ wr.ownsRow w.heap.size 3 1 v ss.length (ss.map (Value.int .i64)) ∧ CollH L c l left ss ∧ Keeps Nowhere w wr) (fun _ wr => wr.rangeLeft mb w3.heap.size)
  case atStart => exact ⟨_, _, [], hrg4, by simp, World.ownsRow_nil _ _ _ _, C0.it, K4.it⟩
  case round =>
    obtain ⟨left, cnt, ss, hrg, hcs, hrow, hC, hnx⟩ := hrel
    go_wp2_with (first
      | (at_next; refine wpList_next_ranges _ rfl _ rfl 3 keyed_int RhP (Value.int .i64) (fun c : Value => c) (fun key kl hk => by obtain ⟨x, hx, _⟩ := Maps.keyOf_int_inv Tryd.underlying3 hk; exact ⟨x, hx⟩) (fun v y _ => ⟨v, rfl⟩) mb w3.heap.size n _ _ _ rfl hrg ?_ ?_)
      | go_in)
    · intro hc0 hl0
      have hp := Aside.mk (hC.perm HO.it hl0)
      have ES := Aside.mk (sort_hon HO.it hp.it)
      have HX := Aside.mk hnx
      have HR := Aside.mk hrow
      rcases hrow.2 with ⟨hnil, h0⟩ | ⟨q, cap, cur, hv, hbase, hb, h1, h2, h3, h4⟩
      · have CS := Aside.mk (Tryd.slices_Sort_int_none none 0 wr)
        subst hnil
        have hs0 : ss = [] := List.eq_nil_of_length_eq_zero h0
        clear hrow hrg hC hnx hcs
        go_wp2_with (go_at_call 29; refine CS.it.mono ?_; rintro e w6 ⟨rfl, hw6⟩; subst hw6)
        go_ret
        have e0 : honL L c l = [] := by have := hp.it.length_eq; rw [hs0] at this; exact List.eq_nil_of_length_eq_zero this.symm
        refine ⟨_, rfl, ⟨?_⟩, HX⟩
        unfold RwI
        rw [e0]
        exact World.ownsRow_nil _ _ _ _
      · subst hv
        have CS := Aside.mk (Tryd.slices_Sort_int q 0 cap ss wr (holds_of_blockI hb (by simpa using h4)) (Array.getElem?_eq_some_iff.1 hb).1 (by omega))
        have HB := Aside.mk hbase
        have SR := Aside.mk (fun (nn : Nat) (os : Array Obj) => ownsRow_sortedI (n := nn) (os := os) (ts := ss.mergeSort (fun x y => decide (x ≤ y))) (by simp) hbase hb h1 h2 h3)
        clear hrow hb h1 h2 h3 h4 hrg hC hnx hbase hcs
        go_wp2_with (go_at_call 29; refine CS.it.mono ?_; rintro e w6 ⟨rfl, X⟩; have X := Aside.mk X)
        go_ret
        obtain ⟨nn, os, hw6⟩ := X.it
        have hlen : ss.length = (honL L c l).length := hp.it.length_eq
        refine ⟨_, rfl, ⟨?_⟩, ⟨?_⟩⟩
        · unfold RwI
          have r := SR.it nn os
          rw [ES.it] at r hw6
          rw [hw6, ← hlen]
          exact r
        · rw [hw6]
          exact HX.it.next (keeps_grown (grownBy_sortedI _)) (fun k e hlt => by have := HB.it; omega)
    · intro z v0 kl0 yd yp w5 cnt5 hkey hlk hv hat5 hrg5 hlt hg5 hs5 hen
      obtain ⟨z', ez, rfl, hwf⟩ := Maps.keyOf_int_inv Tryd.underlying3 hkey
      injection ez with _ ez
      subst ez
      have hx := of_wf_i64 hwf
      obtain ⟨q, hq, rfl⟩ : ∃ q, hfind L z = some q ∧ v0 = pv q := by
        unfold RhP at hv
        have ey : yd = .held v0 := by simp only [Option.some.injEq, Prod.mk.injEq] at hv; exact hv.1.symm
        have ha := fun zd => ((HAT.it z hx).1 zd).symm.trans (hat5 zd)
        cases hf : hfind L z with
        | none =>
          rw [hf] at ha
          have e1 := ha (.lit (.int .i64 0))
          rw [ey] at e1
          cases e1
        | some q =>
          rw [hf] at ha
          have e1 := ha (.lit (.int .i64 0))
          rw [ey] at e1
          simp only [dP, DataW.held.injEq] at e1
          exact ⟨q, rfl, e1.symm⟩
      obtain ⟨qc, ql, qd⟩ := q
      have HQ := Aside.mk hq
      have hrow5 := hrow.kept hg5 (Or.inr (row_ne_iter hrow hrg).symm)
      have K5 : Keeps Nowhere w w5 := hnx.next (keeps_grown hg5) (fun k e hlt => by omega)
      have HK5 := Aside.mk K5
      have HC := Aside.mk hC
      have HR5 := Aside.mk hrow5
      have HG5 := Aside.mk hrg5
      have HL := Aside.mk (And.intro hlk hx)
      have hmem := hon_mem HO.it c l z
      rw [hq] at hmem
      clear hs5 K5 hkey hv hat5 hC hrow hrow5 hq hlk hx hwf hnx hg5
      have HR7 := Aside.mk (HR5.it.alloc (.cells #[.int .i64 qc, .int .i64 ql, .int .u32 (qd : Nat)] 33))
      have HG7 := Aside.mk (HG5.it.alloc (.cells #[.int .i64 qc, .int .i64 ql, .int .u32 (qd : Nat)] 33))
      have HK7 := Aside.mk (HK5.it.alloc (.cells #[.int .i64 qc, .int .i64 ql, .int .u32 (qd : Nat)] 33))
      have C7 := Aside.mk (Cells.new w5 33 [.int .i64 qc, .int .i64 ql, .int .u32 (qd : Nat)])
      obtain ⟨w7, hw7⟩ : ∃ w7, w5.alloc (.cells #[.int .i64 qc, .int .i64 ql, .int .u32 (qd : Nat)] 33) = w7 := ⟨_, rfl⟩
      have e7 : w5.alloc (.cells [.int .i64 qc, .int .i64 ql, .int .u32 (qd : Nat)].toArray 33) = w7 := hw7
      rw [e7] at C7
      rw [hw7] at HR7 HG7 HK7
      clear e7
      go_upto_region 5 with fail
      clear hw7 hen
      have x0 : w7.cell? ⟨w5.heap.size, 0, none⟩ = some (.int .i64 qc) := by rw [C7.it.cell]; rfl
      have x1 : w7.cell? ⟨w5.heap.size, 1, none⟩ = some (.int .i64 ql) := by rw [C7.it.cell]; rfl
      generalize w5.heap.size = bx at x0 x1 ⊢
      clear C7 hrg5
      by_cases h1 : qc = c
      · have d1 : (qc == c) = true := by simp [h1]
        by_cases h2 : ql = l
        · have d2 : (ql == l) = true := by simp [h2]
          have HM : Aside (z ∈ honL L c l) := ⟨hmem.2 ⟨_, rfl, h1, h2⟩⟩
          clear hmem h1 h2
          have b1 : ss.length + 1 ≤ maxLen := Nat.le_trans (show ss.length + 1 ≤ 2147483649 by omega) (by decide)
          have b2 : (ss.length + 1) * 8 ≤ 140737488355328 := by omega
          have b3 : ∀ o, w.heap.size ≤ (w7.alloc o).heap.size := fun o => by have := HK7.it.size; rw [World.size_alloc]; omega
          go_wp2_with (first
            | (at_builtin; refine wpList_append_own _ rfl _ _ 51 rfl w.heap.size 3 i0 (.int .i64 0) 1 8 Tryd.underlying51 hi hz0 hz1 hz2 rfl (by decide) _ _ _ rfl (HR7.it.alloc _) ⟨w7.heap.size, 0, none⟩ 1 1 [.int .i64 z] rfl rfl (cell_one_new _ _ _) (by simp [Value.oneCell']) b1 b2 (b3 _) ?_
               intro v6 w6 hown6 hg6 hnil6)
            | go_in)
          have hrg6 := (HG7.it.alloc _).kept hg6 (row_ne_low HR7.it hmbl) (row_ne_iter HR7.it HG7.it)
          go_roundw
          case rel =>
            refine ⟨_, cnt5, ss ++ [z], hrg6, by simp; omega, by simpa using hown6, HC.it.step HL.it.2 HL.it.1 HM.it, ?_⟩
            exact (HK7.it.alloc _).next (grown_keeps hg6) (fun k e hlt => by have := (HR7.it.lt k e).1; omega)
          case measure => rw [hrg6.left_eq, hrg.left_eq]; exact hlt
        · have d2 : (ql == l) = false := by simp [h2]
          have HM : Aside (z ∉ honL L c l) := ⟨fun hm => by obtain ⟨q, e, _, hq⟩ := hmem.1 hm; injection e with e; rw [← e] at hq; exact h2 hq⟩
          clear hmem h1 h2
          go_wp2_with fail
          go_roundw
          case rel => exact ⟨_, cnt5, ss, HG7.it, by omega, HR7.it, HC.it.pass HM.it, HK7.it⟩
          case measure => rw [HG7.it.left_eq, hrg.left_eq]; exact hlt
      · have d1 : (qc == c) = false := by simp [h1]
        have HM : Aside (z ∉ honL L c l) := ⟨fun hm => by obtain ⟨q, e, hq, _⟩ := hmem.1 hm; injection e with e; rw [← e] at hq; exact h1 hq⟩
        clear hmem h1
        go_wp2_with fail
        go_roundw
        case rel => exact ⟨_, cnt5, ss, HG7.it, by omega, HR7.it, HC.it.pass HM.it, HK7.it⟩
        case measure => rw [HG7.it.left_eq, hrg.left_eq]; exact hlt
theorem RwI.rdI {v : Value} {zs : List Int} (h : RwI w w' v zs) (hz : ∀ z ∈ zs, -9223372036854775808 ≤ z ∧ z ≤ 9223372036854775807) : RdI w' v zs := owns_rdI h hz
theorem hon_bounds (ho : HOk g L) (c l : Int) : ∀ z ∈ honL L c l, -9223372036854775808 ≤ z ∧ z ≤ 9223372036854775807 := fun z hz => by
  obtain ⟨q, hq, _⟩ := (hon_mem ho c l z).1 hz
  have := ho.b _ (hfind_mem hq)
  have hm := ho.m
  simp only at this
  exact ⟨by omega, by omega⟩
set_option maxRecDepth 100000 in
theorem on_nil (w : World) (c l : Int) : Calls Tryd.prog 18 #[.pointer none, .int .i64 c, .int .i64 l] w fun e w' => e = .returned (.slice none 0 0) ∧ Aside (Keeps Nowhere w w') := by
  have PR := Aside.mk (parts_nil w)
  have fl := fld1 (.int .i64 0) (.map none) (.map none)
  go_enter Tryd.func18, Tryd.ntmps18
  go_wp2_with (first
    | (go_at_call 26; refine PR.it.mono ?_; rintro e w3 ⟨rfl, K3⟩
       have hrg := run_range_nilMap (P := Tryd.prog) w3 59 3 33 Tryd.underlying59
       have hnx : ∀ ty, (Instr.next (.pointer (some ⟨w3.heap.size, 0, none⟩)) false ty).run Tryd.prog (w3.alloc (.mapIter none 0 #[] 0)) = _ := fun ty => run_next_nilMap _ ty 0 0 #[])
    | go_in)
  refine wp_loop_rounds 1 ?_
  rw [rounds_succ]
  have CS := Aside.mk (fun W => Tryd.slices_Sort_int_none none 0 W)
  go_wp2_with (go_at_call 29; refine (CS.it _).mono ?_; rintro e w6 ⟨rfl, hw6⟩; subst hw6)
  go_ret
  exact ⟨rfl, ⟨K3.it.alloc _⟩⟩
end Go.Proofs.YtjloedcikcamkaaDoor
