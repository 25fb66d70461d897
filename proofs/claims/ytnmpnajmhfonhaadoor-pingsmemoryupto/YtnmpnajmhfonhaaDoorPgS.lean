/-
  slices.Sorted(maps.Keys(m)) at numbers of 32 bits
-/
import Derived.Test.YtnmpnajmhfonhaaDoorPgM
import Derived.Test.YtnmpnajmhfonhaaDoorSoJ
import Derived.OwnWalk
import Derived.Maps.AppendAt
import Derived.Sort.MapsRangeIn
import Derived.Sort.KeysCollected
import Derived.Sort.OwnSorted
import Derived.RangeFuncNested
import Derived.RangeFuncBound
import Derived.RangeFuncCalls
import Derived.RangeFuncLeaves
import Derived.RangeFuncBox
import Derived.Shelf.Abstract
import Derived.Shelf.RegionOpen
import Derived.OwnWalkIn
import Derived.TacticsInMore
import Derived.LoopNIn
import Derived.LoopIn
namespace Go.Proofs.YtnmpnajmhfonhaaDoor.Pg
open Go.RowKit Go.Maps Go.Shelf

variable {w w' W : World} {mb k : Nat} {L : Tl Unit}

/-- what was met so far -/
def Coll (L : Tl Unit) (left : Lit → Bool) (ss : List Nat) : Prop := ss.Nodup ∧ ∀ x, x ∈ ss ↔ (x ≤ 4294967295 ∧ (tlook L x).isSome = true ∧ left (kl x) = false)
theorem Coll.start {D : DataW Value} (h : ∀ k, k ≤ 4294967295 → Maps.has D (kl k) = (tlook L k).isSome) : Coll L (Maps.has D) [] := by
  refine ⟨List.nodup_nil, fun x => ?_⟩
  constructor
  · intro hx
    cases hx
  · intro hx
    obtain ⟨h1, h2, h3⟩ := hx
    rw [h x h1, h2] at h3
    cases h3
theorem Coll.step {left : Lit → Bool} {ss : List Nat} (h : Coll L left ss) {x : Nat} (hx : x ≤ 4294967295) (hl : left (kl x) = true) (hs : (tlook L x).isSome = true) : Coll L (fun z => left z && !z.sameKey (kl x)) (ss ++ [x]) := by
  have hnew : x ∉ ss := fun hm => by have := ((h.2 x).1 hm).2.2; rw [hl] at this; cases this
  refine ⟨List.nodup_append.2 ⟨h.1, by simp, fun a ha b hb => by simp at hb; subst hb; exact fun e => hnew (e ▸ ha)⟩, fun y => ?_⟩
  by_cases hy : y = x
  · subst hy
    simp [hx, hs, kl, Lit.sameKey]
  · have e : (kl y).sameKey (kl x) = false := by
      simp only [kl, Lit.sameKey]
      simp
      omega
    simp [h.2 y, hy, e]
theorem Coll.perm {left : Lit → Bool} {ss : List Nat} (h : Coll L left ss) (hu : Up L) (hl : ∀ z, left z = false) : ss.Perm (ks L) := by
  refine (List.perm_ext_iff_of_nodup h.1 (hu.p.imp (fun h => by omega))).2 (fun x => ?_)
  rw [h.2 x, hl]
  constructor
  · intro ⟨_, h2, _⟩
    exact Decidable.byContradiction (fun hn => by rw [tlook_none_iff.2 hn] at h2; cases h2)
  · intro hx
    obtain ⟨y, hy, rfl⟩ := List.mem_map.1 hx
    refine ⟨hu.b y hy, ?_, rfl⟩
    rw [tlook_mem hu (v := y.2) hy]
    rfl
theorem owns_rebase {w : World} {base g cap n : Nat} {e : TypeId} {xs : List Value} (h : w.ownsRow 0 e 1 (.slice (some ⟨g, 0, none⟩) n cap) n xs) (hb : base ≤ g) : w.ownsRow base e 1 (.slice (some ⟨g, 0, none⟩) n cap) n xs := by
  refine ⟨h.1, ?_⟩
  rcases h.2 with ⟨h, _⟩ | ⟨g', cap', cur, h, h0, h1⟩
  · cases h
  · cases h
    exact .inr ⟨_, _, cur, rfl, hb, h1⟩
theorem owns_mono {base base' : Nat} {e : TypeId} {k n : Nat} {v : Value} {xs : List Value} (h : w.ownsRow base e k v n xs) (hb : base' ≤ base) : w.ownsRow base' e k v n xs := by
  refine ⟨h.1, ?_⟩
  rcases h.2 with h0 | ⟨g, cap, cur, rfl, hg, rest⟩
  · exact .inl h0
  · exact .inr ⟨g, cap, cur, rfl, Nat.le_trans hb hg, rest⟩
theorem u32info : (Tryd.prog.info? 37).map (fun i => (i.zero, i.size, i.bytes)) = some (some (.int .u32 0), 1, 4) := by kernel_rfl

abbrev enc1 (x : Nat) : Array Value := #[e32 x]
/-- the walk of maps.Keys: each key once -/
def Gives (n : Nat) (w : World) (b : Nat) (L : Tl Unit) : Prop := SeqStopsK Fence.wide n Tryd.prog 39 #[.pointer (some ⟨b, 0, none⟩)] enc1 KeepsWalks (fun ss => ss.Perm (ks L)) (fun _ => True) L.length w

set_option maxRecDepth 100000 in
set_option maxHeartbeats 1000000 in
theorem gives_at (n : Nat) (hn : 1 ≤ n) (b : Nat) (hc : w.cell? ⟨b, 0, none⟩ = some (.map (some mb))) (hm : MapV w mb L) (hu : Up L) : Gives n w b L := by
  intro l J Jx W hW hJ hJx hY h0
  have hbl := World.block_lt_of_cell? w _ hc
  have hcW : W.cell? ⟨b, 0, none⟩ = some (.map (some mb)) := (hW.cell (p := ⟨b, 0, none⟩) hbl).trans hc
  have hmW : MapV W mb L := hm.later (S := Nowhere) ⟨hW.os, hW.tape, hW.output, hW.size, fun k hk _ => hW.block k hk⟩ (fun x => x)
  obtain ⟨D, hown, hsz, hat⟩ := hmW
  have C0 := Aside.mk (Coll.start (L := L) (D := D) (fun k hk => (hat k hk).2))
  have HAT := Aside.mk hat
  have HU := Aside.mk hu
  have HJ := Aside.mk hJ
  have HY := Aside.mk hY
  obtain ⟨N, hN⟩ : ∃ N, L.length = N := ⟨_, rfl⟩
  rw [hN] at hown hsz HY
  clear hY hJ hJx hc hW hbl hm hat hu hN
  refine callsIn_of_wp Tryd.func39 rfl trivial ?_ rfl
  simp only [Tryd.ntmps39, List.size_toArray, List.length_cons, List.length_nil, Nat.reduceAdd, Nat.reduceSub, Array.replicate_succ, Array.replicate_zero, List.push_toArray, List.append_toArray, List.nil_append, List.cons_append]
  gi_wp2_with (first
    | (gi_at_range; refine wpListIn_range_own _ rfl _ 54 rfl 37 64 keyed_ Tryd.underlying54 Rh mb N D rfl hown ?_; intro w0 hrg0 hg0 hs0)
    | gi_in)
  go_frame
  rw [hsz] at hrg0
  have J0 := Aside.mk (HJ.it [] W w0 none h0 hg0 (fun r e => by cases e))
  clear hs0 h0
  gi_loopw [3] (fun _ wr => ∃ (left : Lit → Bool) (cnt : Nat) (ss : List Nat), wr.ranges Tryd.prog 37 Rh mb W.heap.size N D left cnt ∧ ss.length + cnt ≤ N ∧ Coll L left ss ∧ J ss wr) (fun _ wr => wr.rangeLeft mb W.heap.size)
  case atStart => exact ⟨_, _, [], hrg0, by simp, C0.it, J0.it⟩
  case round =>
    obtain ⟨left, cnt, ss, hrg, hcs, hC, hJs⟩ := hrel
    gi_wp2_with (first
      | (gi_at_next; refine wpListIn_next_ranges _ rfl _ rfl 37 keyed_ Rh (Value.int .u32) (fun c : Value => c) (fun key kl hk => by obtain ⟨x, hx, _⟩ := Maps.keyOf_int_inv Tryd.underlying37 hk; exact ⟨x, hx⟩) (fun v y _ => ⟨v, rfl⟩) mb W.heap.size N _ _ _ rfl hrg ?_ ?_)
      | gi_in)
    · intro hc0 hl0
      have hp := Aside.mk (hC.perm HU.it hl0)
      have HJs := Aside.mk hJs
      clear hrg hC hJs
      gi_wp2
      go_end0
      exact ⟨⟨_, rfl⟩, .inl ⟨ss, hp.it, HJs.it⟩⟩
    · intro z c kl0 yd yp w5 cnt5 hkey hlk hv hat5 hrg5 hlt hg5 hs5 hen
      obtain ⟨z', ez, rfl, hwf⟩ := Maps.keyOf_int_inv Tryd.underlying37 hkey
      injection ez with _ ez
      subst ez
      obtain ⟨x, rfl, hx⟩ := of_wf hwf
      have hsome : (tlook L x).isSome = true := by rw [← (HAT.it x hx).2]; exact Maps.has_true_of_atKey hat5
      have hJ2 : J ss w5 := HJ.it ss wr w5 (some W.heap.size) hJs hg5 (fun r e => by cases e; exact ⟨Nat.le_refl _, hrg.iter_walk⟩)
      obtain ⟨fn, tmps, assign, body, hy, hR⟩ := HY.it ss x w5 hJ2 (by omega)
      have C5 := Aside.mk (hC.step hx hlk hsome)
      have HRG := Aside.mk hrg
      have HR5 := Aside.mk hrg5
      clear hs5 hrg hrg5 hC hJs hJ2
      gi_wp2
      refine hR.mono ?_
      rintro e W3 (⟨rfl, hJ3, hk3⟩ | ⟨rfl, hJx3⟩)
      · have HJ3 := Aside.mk hJ3
        have hrg3 := HR5.it.of_walks hk3
        have HR3 := Aside.mk hrg3
        clear hJ3 hk3 hrg3
        gi_wp2
        go_roundw
        case rel => exact ⟨_, cnt5, ss ++ [x], HR3.it, by simp; omega, C5.it, HJ3.it⟩
        case measure => rw [HR3.it.left_eq, HRG.it.left_eq]; exact hlt
      · have HX3 := Aside.mk hJx3
        clear hJx3
        gi_wp2
        refine bodyPost_ret (results_none rfl _ _ _) rfl ?_
        exact ⟨⟨_, rfl⟩, .inr ⟨_, trivial, HX3.it⟩⟩
set_option maxRecDepth 100000 in
set_option maxHeartbeats 1000000 in
theorem gives_nil (n : Nat) (b : Nat) (hc : w.cell? ⟨b, 0, none⟩ = some (.map none)) : Gives n w b [] := by
  intro l J Jx W hW hJ hJx hY h0
  have hbl := World.block_lt_of_cell? w _ hc
  have hcW : W.cell? ⟨b, 0, none⟩ = some (.map none) := (hW.cell (p := ⟨b, 0, none⟩) hbl).trans hc
  have J1 := Aside.mk (hJ [] W (W.alloc (.mapIter none 0 #[] 0)) none h0 (World.grownBy_alloc W _ none) (fun r e => by cases e))
  clear hY hJ hJx hc hW hbl h0
  have hrg := run_range_nilMap (P := Tryd.prog) W 54 37 64 Tryd.underlying54
  have hnx : ∀ ty, (Instr.next (.pointer (some ⟨W.heap.size, 0, none⟩)) false ty).run Tryd.prog (W.alloc (.mapIter none 0 #[] 0)) = _ := fun ty => run_next_nilMap _ ty 0 0 #[]
  refine callsIn_of_wp Tryd.func39 rfl trivial ?_ rfl
  simp only [Tryd.ntmps39, List.size_toArray, List.length_cons, List.length_nil, Nat.reduceAdd, Nat.reduceSub, Array.replicate_succ, Array.replicate_zero, List.push_toArray, List.append_toArray, List.nil_append, List.cons_append]
  gi_wp2
  refine wpIn_loop_rounds 1 ?_
  rw [roundsIn_succ]
  gi_wp2
  go_end0
  exact ⟨⟨_, rfl⟩, .inl ⟨[], List.Perm.refl _, J1.it⟩⟩

theorem seq_not_nil (w : World) (b : Nat) : (binOp BinOp.eql 62 (.func (.func 39) #[] #[.pointer (some ⟨b, 0, none⟩)]) .nilFunc).run Tryd.prog w = .ok (.bool false) w := by
  kernel_rfl
theorem ownFrom_keeps {β : Type} (S : Nat → Prop) (w : World) : OwnFrom (β := β) w.heap.size (fun _ W => Keeps S w W) := fun _ _ _ _ hs hg hr => by
  refine hs.next (S' := fun k => _ = some k) ⟨hg.os, hg.tape, hg.output, hg.size, fun k hk hn => hg.block k hk (fun e => hn e.symm)⟩ (fun k e hlt => ?_)
  have := (hr k e).1
  omega
end Go.Proofs.YtnmpnajmhfonhaaDoor.Pg
