/-
  package trace: Keys
-/
import Derived.Test.YtambdgcogldbgaaDoorTrD
import Derived.Test.YtambdgcogldbgaaDoorRdI
import Derived.OwnWalk
import Derived.Maps.AppendAt
import Derived.Maps.RangeWalk
import Derived.MapKept
import Derived.Sort.KeysCollected
import Derived.Sort.OwnSortedInts
namespace Go.Proofs.YtambdgcogldbgaaDoor
open Go.RowKit Go.Maps Go.Sort

variable {own own' : Nat → Nat} {i p T mb : Nat} {w w' w1 : World} {L : Hs} {I : Nat → Prop} {k : Int} {b : Nat} {v : Value} {r : Rc} {F : Int → Option (Nat × Value)} {A : Nat → Addr}

/-- what was met so far -/
def CollT (L : Hs) (left : Lit → Bool) (ss : List Int) : Prop := ss.Nodup ∧ ∀ x, x ∈ ss ↔ (Zw x ∧ x ∈ tk L ∧ left (kI x) = false)
theorem CollT.start {D : DataW Value} (h : ∀ k, Zw k → Maps.has D (kI k) = (tget L k).isSome) : CollT L (Maps.has D) [] := by
  refine ⟨List.nodup_nil, fun x => ⟨(fun hx => by cases hx), fun hx => ?_⟩⟩
  obtain ⟨h1, h2, h3⟩ := hx
  rw [h x h1, tget_key.2 h2] at h3
  cases h3
theorem kI_same {x y : Int} : (kI y).sameKey (kI x) = decide (y = x) := by simp [kI, Lit.sameKey]
theorem CollT.step {left : Lit → Bool} {ss : List Int} (h : CollT L left ss) {x : Int} (hx : Zw x) (hl : left (kI x) = true) (hs : x ∈ tk L) : CollT L (fun z => left z && !z.sameKey (kI x)) (ss ++ [x]) := by
  have hnew : x ∉ ss := fun hm => by have := ((h.2 x).1 hm).2.2; rw [hl] at this; cases this
  refine ⟨List.nodup_append.2 ⟨h.1, by simp, fun a ha b hb => by simp at hb; subst hb; exact fun e => hnew (e ▸ ha)⟩, fun y => ?_⟩
  by_cases hy : y = x
  · subst hy
    simp [hx, hs, kI_same]
  · simp [h.2 y, hy, kI_same]
theorem CollT.perm {left : Lit → Bool} {ss : List Int} (h : CollT L left ss) (ho : TOk T L) (hl : ∀ z, left z = false) : ss.Perm (tk L) := by
  refine (List.perm_ext_iff_of_nodup h.1 (ho.up.imp (fun h => by omega))).2 (fun x => ?_)
  rw [h.2 x, hl]
  refine ⟨fun h => h.2.1, fun hx => ⟨?_, hx, rfl⟩⟩
  obtain ⟨y, hy, rfl⟩ := List.mem_map.1 hx
  exact ho.kb y hy
theorem intinfo : (Tryd.prog.info? 3).map (fun i => (i.zero, i.size, i.bytes)) = some (some (.int .i64 0), 1, 8) := by kernel_rfl
theorem kgrown {w w' : World} (h : Keeps Nowhere w w') : w.grownBy w' none := ⟨h.os, h.tape, h.output, h.size, fun k hk _ => h.block k hk (fun x => x)⟩
/-- a row that the call made -/
def RwI (w : World) (w' : World) (v : Value) (zs : List Int) : Prop := w'.ownsRow w.heap.size 3 1 v zs.length (zs.map (Value.int .i64))
theorem make_ints (w : World) (n : Nat) (hn : n ≤ 2147483648) : ∃ w' c, Aside ((Instr.makeSlice 47 (.int .i64 0) (.int .i64 n)).run Tryd.prog w = .ok (.slice (some ⟨w.heap.size, 0, none⟩) 0 c) w') ∧ Aside (w'.ownsRow w.heap.size 3 1 (.slice (some ⟨w.heap.size, 0, none⟩) 0 c) 0 []) ∧ Aside (Keeps Nowhere w w') := by
  obtain ⟨i, hi, hz0, hz1, hz2⟩ := info_parts intinfo
  have h := run_make (P := Tryd.prog) w 47 3 i _ Tryd.underlying47 hi hz0 .i64 .i64 0 n (by omega) (by omega) (by rw [hz2]; omega) (by omega)
  refine ⟨_, _, ⟨h⟩, ⟨?_⟩, ⟨(Keeps.refl _ _).alloc _⟩⟩
  exact World.ownsRow_made w _ _ (Nat.le_refl _) (by unfold maxLen; omega) (by simp [madeCells, hz1])
set_option maxRecDepth 100000 in
set_option maxHeartbeats 2000000 in
theorem keys_at (h : TrO own i w p T L) : Calls Tryd.prog 15 #[ptr p] w fun e w' => ∃ v, e = .returned v ∧ Aside (RwI w w' v (tk L)) ∧ Aside (Keeps Nowhere w w') := by
  have ho := h.ok
  have LU := h.n
  obtain ⟨mb, F, hI, hp, hmb, hob⟩ := h.it
  have hmbl := hI.m.lt
  have PR := Aside.mk (fun W (kp : Keeps Nowhere w W) => records_at (hI.pc.later kp (fun x => x)))
  have hln := hI.m.len
  have HD := hI.dom
  obtain ⟨D, hown, hsz, hat⟩ := hI.m
  obtain ⟨i0, hi, hz0, hz1, hz2⟩ := info_parts intinfo
  have C0 := Aside.mk (CollT.start (L := L) (D := D) (fun k hk => by rw [(hat k hk).2, Option.isSome_map, HD]))
  have HAT : Aside (∀ k, Zw k → ∀ yd : Value, (∀ zd, D.atKey (kI k) zd = .held yd) → k ∈ tk L) := ⟨fun k hk yd hy => by
    refine tget_key.1 ?_
    rw [← HD k]
    have ha := fun zd => ((hat k hk).1 zd).symm.trans (hy zd)
    cases hf : F k with
    | none => simp only [hf, Option.map_none] at ha; have e1 := ha (.lit (.int .i64 0)); cases e1
    | some x => rfl⟩
  have HO := Aside.mk ho
  obtain ⟨n, hn⟩ : ∃ n, L.length = n := ⟨_, rfl⟩
  rw [hn] at hown hsz LU hln
  obtain ⟨w2, c2, MK, RW2, K2⟩ := make_ints w n LU
  have mk := MK.it
  clear h ho hat hn hI HD hp hmb hob
  go_enter Tryd.func15, Tryd.ntmps15
  go_upto_region 2 with (first | (go_at_call 32; refine (PR.it w (Keeps.refl _ _)).mono ?_; rintro e wx ⟨rfl, hwx⟩; have hwx := hwx.symm; subst hwx) | fail)
  clear mk hln MK
  go_wp2_with (first
    | (go_at_call 32; refine (PR.it w2 K2.it).mono ?_; rintro e wx ⟨rfl, hwx⟩; have hwx := hwx.symm; subst hwx)
    | (at_range; refine wpList_range_own _ rfl _ 58 rfl 3 66 keyed_int Tryd.underlying58 RhT mb n D rfl (hown.kept (kgrown K2.it) (by simp)) ?_; intro w4 hrg4 hg4 hs4)
    | go_in)
  go_frame
  rw [hsz] at hrg4
  have K4 : Aside (Keeps Nowhere w w4) := ⟨K2.it.trans (Keeps.mk hg4.os hg4.tape hg4.output hg4.size (fun k hk _ => hg4.block k hk (fun e => by cases e)))⟩
  have R4 : Aside (w4.ownsRow w.heap.size 3 1 (.slice (some ⟨w.heap.size, 0, none⟩) 0 c2) 0 []) := ⟨RW2.it.kept hg4 (Or.inr (by simp [Value.ownBlock]))⟩
  have hw3 : w.heap.size ≤ w2.heap.size := K2.it.size
  clear hs4
  go_loopw [3] (fun v wr => ∃ (left : Lit → Bool) (cnt : Nat) (ss : List Int), wr.ranges Tryd.prog 3 RhT mb w2.heap.size n D left cnt ∧ ss.length + cnt ≤ n ∧ wr.ownsRow w.heap.size 3 1 v ss.length (ss.map (Value.int .i64)) ∧ CollT L left ss ∧ Keeps Nowhere w wr) (fun _ wr => wr.rangeLeft mb w2.heap.size)
  case atStart => exact ⟨_, _, [], hrg4, by simp, R4.it, C0.it, K4.it⟩
  case round =>
    obtain ⟨left, cnt, ss, hrg, hcs, hrow, hC, hnx⟩ := hrel
    go_wp2_with (first
      | (at_next; refine wpList_next_ranges _ rfl _ rfl 3 keyed_int RhT (Value.int .i64) (fun c : Value => c) (fun key kl hk => by obtain ⟨x, hx, _⟩ := Maps.keyOf_int_inv Tryd.underlying3 hk; exact ⟨x, hx⟩) (fun v y _ => ⟨v, rfl⟩) mb w2.heap.size n _ _ _ rfl hrg ?_ ?_)
      | go_in)
    · intro hc0 hl0
      have hp := Aside.mk (hC.perm HO.it hl0)
      have ES := Aside.mk (sort_tk HO.it hp.it)
      have HX := Aside.mk hnx
      rcases hrow.2 with ⟨hnil, h0⟩ | ⟨q, cap, cur, hv, hbase, hb, h1, h2, h3, h4⟩
      · have CS := Aside.mk (Tryd.slices_Sort_int_none none 0 wr)
        subst hnil
        have hs0 : ss = [] := List.eq_nil_of_length_eq_zero h0
        clear hrow hrg hC hnx hcs
        go_wp2_with (go_at_call 33; refine CS.it.mono ?_; rintro e w6 ⟨rfl, hw6⟩; subst hw6)
        go_ret
        have e0 : tk L = [] := by have := hp.it.length_eq; rw [hs0] at this; exact List.eq_nil_of_length_eq_zero this.symm
        refine ⟨_, rfl, ⟨?_⟩, HX⟩
        unfold RwI
        rw [e0]
        exact World.ownsRow_nil _ _ _ _
      · subst hv
        have CS := Aside.mk (Tryd.slices_Sort_int q 0 cap ss wr (holds_of_blockI hb (by simpa using h4)) (Array.getElem?_eq_some_iff.1 hb).1 (by omega))
        have HB := Aside.mk hbase
        have SR := Aside.mk (fun (nn : Nat) (os : Array Obj) => ownsRow_sortedI (n := nn) (os := os) (ts := ss.mergeSort (fun x y => decide (x ≤ y))) (by simp) hbase hb h1 h2 h3)
        clear hrow hb h1 h2 h3 h4 hrg hC hnx hbase hcs
        go_wp2_with (go_at_call 33; refine CS.it.mono ?_; rintro e w6 ⟨rfl, X⟩; have X := Aside.mk X)
        go_ret
        obtain ⟨nn, os, hw6⟩ := X.it
        have hlen : ss.length = (tk L).length := hp.it.length_eq
        refine ⟨_, rfl, ⟨?_⟩, ⟨?_⟩⟩
        · unfold RwI
          have r := SR.it nn os
          rw [ES.it] at r hw6
          rw [hw6, ← hlen]
          exact r
        · rw [hw6]
          exact HX.it.next (keeps_grown (grownBy_sortedI _)) (fun k e hlt => by have := HB.it; omega)
    · intro z v0 kl0 yd yp w5 cnt5 hkey hlk hv hat5 hrg5 hlt hg5 hs5 hen
      obtain ⟨z', ez, rfl, hwf⟩ := Maps.keyOf_int_inv Tryd.underlying3 hkey
      injection ez with _ ez
      subst ez
      have hx := of_wf_i64 hwf
      have ey : yd = .held v0 := by unfold RhT at hv; simp only [Option.some.injEq, Prod.mk.injEq] at hv; exact hv.1.symm
      have hmem : Aside (z ∈ tk L) := ⟨HAT.it z hx v0 (fun zd => by rw [← ey]; exact hat5 zd)⟩
      have hrow5 := hrow.kept hg5 (Or.inr (row_ne_iter hrow hrg).symm)
      have K5 : Keeps Nowhere w w5 := hnx.next (keeps_grown hg5) (fun k e hlt => by omega)
      have HK5 := Aside.mk K5
      have HC := Aside.mk hC
      have HR5 := Aside.mk hrow5
      have HG5 := Aside.mk hrg5
      have HL := Aside.mk (And.intro hlk hx)
      clear hs5 K5 hkey hv hat5 hC hrow hrow5 hlk hx hwf hnx hg5 ey
      have b1 : ss.length + 1 ≤ maxLen := Nat.le_trans (show ss.length + 1 ≤ 2147483649 by omega) (by decide)
      have b2 : (ss.length + 1) * 8 ≤ 140737488355328 := by omega
      have b3 : ∀ o, w.heap.size ≤ (w5.alloc o).heap.size := fun o => by have := HK5.it.size; rw [World.size_alloc]; omega
      go_wp2_with (first
        | (at_builtin; refine wpList_append_own _ rfl _ _ 47 rfl w.heap.size 3 i0 (.int .i64 0) 1 8 Tryd.underlying47 hi hz0 hz1 hz2 rfl (by decide) _ _ _ rfl (HR5.it.alloc _) ⟨w5.heap.size, 0, none⟩ 1 1 [.int .i64 z] rfl rfl (cell_one_new _ _ _) (by simp [Value.oneCell']) b1 b2 (b3 _) ?_
           intro v6 w6 hown6 hg6 hnil6)
        | go_in)
      have hrg6 := (HG5.it.alloc _).kept hg6 (row_ne_low HR5.it hmbl) (row_ne_iter HR5.it HG5.it)
      go_roundw
      case rel =>
        refine ⟨_, cnt5, ss ++ [z], hrg6, by simp; omega, by simpa using hown6, HC.it.step HL.it.2 HL.it.1 hmem.it, ?_⟩
        exact (HK5.it.alloc _).next (grown_keeps hg6) (fun k e hlt => by have := (HR5.it.lt k e).1; omega)
      case measure => rw [hrg6.left_eq, hrg.left_eq]; exact hlt
theorem RwI.rdI {v : Value} {zs : List Int} (h : RwI w w' v zs) (hz : ∀ z ∈ zs, -9223372036854775808 ≤ z ∧ z ≤ 9223372036854775807) : RdI w' v zs := owns_rdI h hz
theorem tk_bounds (ho : TOk T L) : ∀ z ∈ tk L, -9223372036854775808 ≤ z ∧ z ≤ 9223372036854775807 := fun z hz => by
  obtain ⟨y, hy, rfl⟩ := List.mem_map.1 hz
  exact ho.kb y hy
set_option maxRecDepth 100000 in
theorem keys_nil (w : World) : Calls Tryd.prog 15 #[.pointer none] w fun e w' => ∃ v, e = .returned v ∧ Aside (RwI w w' v []) ∧ Aside (Keeps Nowhere w w') := by
  have PR := Aside.mk (fun W => records_nil W)
  have hln : ∀ ty W, (Builtin.len_ #[58] ty #[.map none]).run Tryd.prog W = .ok (.int .i64 0) W := fun ty W => by kernel_rfl
  obtain ⟨w2, c2, MK, RW2, K2⟩ := make_ints w 0 (by decide)
  have mk : (Instr.makeSlice 47 (.int .i64 0) (.int .i64 0)).run Tryd.prog w = .ok (.slice (some ⟨w.heap.size, 0, none⟩) 0 c2) w2 := MK.it
  have hrg := run_range_nilMap (P := Tryd.prog) w2 58 3 66 Tryd.underlying58
  have hnx : ∀ ty, (Instr.next (.pointer (some ⟨w2.heap.size, 0, none⟩)) false ty).run Tryd.prog (w2.alloc (.mapIter none 0 #[] 0)) = _ := fun ty => run_next_nilMap _ ty 0 0 #[]
  go_enter Tryd.func15, Tryd.ntmps15
  go_wp2_with (first
    | (go_at_call 32; refine (PR.it _).mono ?_; rintro e wx ⟨rfl, hwx⟩; have hwx := hwx.symm; subst hwx)
    | go_in)
  refine wp_loop_rounds 1 ?_
  rw [rounds_succ]
  have R3 := RW2.it.kept (kgrown ((Keeps.refl Nowhere w2).alloc (.mapIter none 0 #[] 0))) (Or.inr (by simp [Value.ownBlock]))
  have HR3 := Aside.mk R3
  clear R3
  have CS := Aside.mk (fun W => Tryd.slices_Sort_int_none (some ⟨w.heap.size, 0, none⟩) c2 W)
  go_wp2_with (go_at_call 33; refine (CS.it _).mono ?_; rintro e w6 ⟨rfl, hw6⟩; subst hw6)
  go_ret
  exact ⟨_, rfl, ⟨HR3.it⟩, ⟨K2.it.alloc _⟩⟩
end Go.Proofs.YtambdgcogldbgaaDoor
