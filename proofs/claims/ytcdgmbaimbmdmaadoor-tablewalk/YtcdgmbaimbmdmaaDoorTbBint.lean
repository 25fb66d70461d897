/-
  package table at int: IDs
-/
import Derived.Test.YtcdgmbaimbmdmaaDoorTbAint
import Derived.Test.YtcdgmbaimbmdmaaDoorSoJ
import Derived.OwnWalk
import Derived.Maps.AppendAt
import Derived.Maps.RangeWalk
import Derived.Sort.KeysCollected
import Derived.Sort.OwnSorted
namespace Go.Proofs.YtcdgmbaimbmdmaaDoor.Tbint
open Go.RowKit Go.Maps

variable {own own' : Nat → Nat} {i p k : Nat} {w w' : World} {room : Int} {L : Tl Int} {I : Nat → Prop} {A : Nat → Addr}

/-- what was met so far -/
def Coll (L : Tl Int) (left : Lit → Bool) (ss : List Nat) : Prop := ss.Nodup ∧ ∀ x, x ∈ ss ↔ (x ≤ 4294967295 ∧ (tlook L x).isSome = true ∧ left (kl x) = false)
theorem Coll.start {D : DataW Value} (h : ∀ k, k ≤ 4294967295 → Maps.has D (kl k) = (tlook L k).isSome) : Coll L (Maps.has D) [] := by
  refine ⟨List.nodup_nil, fun x => ?_⟩
  constructor
  · intro hx
    cases hx
  · intro hx
    obtain ⟨h1, h2, h3⟩ := hx
    rw [h x h1, h2] at h3
    cases h3
theorem Coll.step {left : Lit → Bool} {ss : List Nat} (h : Coll L left ss) {x : Nat} (hx : x ≤ 4294967295) (hl : left (kl x) = true) (hs : (tlook L x).isSome = true) : Coll L (fun z => left z && !z.sameKey (kl x)) (ss ++ [x]) := by
  have hnew : x ∉ ss := fun hm => by have := ((h.2 x).1 hm).2.2; rw [hl] at this; cases this
  refine ⟨List.nodup_append.2 ⟨h.1, by simp, fun a ha b hb => by simp at hb; subst hb; exact fun e => hnew (e ▸ ha)⟩, fun y => ?_⟩
  by_cases hy : y = x
  · subst hy
    simp [hx, hs, kl, Lit.sameKey]
  · have e : (kl y).sameKey (kl x) = false := by
      simp only [kl, Lit.sameKey]
      simp
      omega
    simp [h.2 y, hy, e]
theorem Coll.perm {left : Lit → Bool} {ss : List Nat} (h : Coll L left ss) (hu : Up L) (hl : ∀ z, left z = false) : ss.Perm (ks L) := by
  refine (List.perm_ext_iff_of_nodup h.1 (hu.p.imp (fun h => by omega))).2 (fun x => ?_)
  rw [h.2 x, hl]
  constructor
  · intro ⟨_, h2, _⟩
    exact Decidable.byContradiction (fun hn => by rw [tlook_none_iff.2 hn] at h2; cases h2)
  · intro hx
    obtain ⟨y, hy, rfl⟩ := List.mem_map.1 hx
    refine ⟨hu.b y hy, ?_, rfl⟩
    rw [tlook_mem hu (v := y.2) hy]
    rfl

theorem owns_rebase {w : World} {base g cap n : Nat} {e : TypeId} {xs : List Value} (h : w.ownsRow 0 e 1 (.slice (some ⟨g, 0, none⟩) n cap) n xs) (hb : base ≤ g) : w.ownsRow base e 1 (.slice (some ⟨g, 0, none⟩) n cap) n xs := by
  refine ⟨h.1, ?_⟩
  rcases h.2 with ⟨h, _⟩ | ⟨g', cap', cur, h, h0, h1⟩
  · cases h
  · cases h
    exact .inr ⟨_, _, cur, rfl, hb, h1⟩
theorem u32info : (Tryd.prog.info? 36).map (fun i => (i.zero, i.size, i.bytes)) = some (some (.int .u32 0), 1, 4) := by kernel_rfl
set_option maxRecDepth 100000 in
set_option maxHeartbeats 1000000 in
theorem ids_at (h : TbO own i w p room L) : Calls Tryd.prog 14 #[ptr p] w fun e w' => ∃ g cap, e = .returned (.slice (some ⟨g, 0, none⟩) L.length cap) ∧ w.heap.size ≤ g ∧ Aside (w'.ownsRow w.heap.size 36 1 (.slice (some ⟨g, 0, none⟩) L.length cap) L.length ((ks L).map e32)) ∧ Aside (Keeps Nowhere w w') := by
  have hu := h.up
  have hln := len_at h
  have LU := up_len hu
  obtain ⟨mb, hc, hm, hb⟩ := h.it
  have hmbl := hm.lt
  have HC := Aside.mk hc.1
  obtain ⟨D, hown, hsz, hat⟩ := hm
  obtain ⟨i0, hi, hz0, hz1, hz2⟩ := info_parts u32info
  have C0 := Aside.mk (Coll.start (L := L) (D := D) (fun k hk => (hat k hk).2))
  have HAT := Aside.mk hat
  have HU := Aside.mk hu
  have hmx : L.length ≤ maxLen := Nat.le_trans LU (by decide)
  obtain ⟨n, hn⟩ : ∃ n, L.length = n := ⟨_, rfl⟩
  rw [hn] at hln hown hsz LU hmx ⊢
  have HN := Aside.mk hn
  clear h hc hu hat hn hb
  go_enter Tryd.func14, Tryd.ntmps14
  go_wp2_with (first
    | (go_at_call 19; refine hln.mono ?_; rintro e w1 ⟨rfl, hw1⟩; subst hw1)
    | (at_make; refine wpList_make_own _ rfl _ _ 51 rfl w1.heap.size 36 i0 (.int .u32 0) 1 Tryd.underlying51 hi hz0 hz1 _ _ _ n rfl rfl rfl (by rw [hz2]; omega) hmx (Nat.le_refl _) ?_
       intro w2 hrow2 hg2
       have hh := held_raw (HC.it.later (S := Nowhere) ⟨hg2.os, hg2.tape, hg2.output, hg2.size, fun k hk _ => hg2.block k hk (fun e => by cases e)⟩ (fun x => x)))
    | (go_at_call 25; refine hh.mono ?_; rintro e w3 ⟨rfl, hw3⟩; subst hw3)
    | (at_range; refine wpList_range_own _ rfl _ 53 rfl 36 3 keyed_ Tryd.underlying53 Rh mb n D rfl (hown.kept hg2 (by simp)) ?_; intro w4 hrg4 hg4 hs4)
    | go_in)
  go_frame
  rw [hsz] at hrg4
  have K4 : Aside (Keeps Nowhere w1 w4) := ⟨(Keeps.mk hg2.os hg2.tape hg2.output hg2.size (fun k hk _ => hg2.block k hk (fun e => by cases e))).trans (Keeps.mk hg4.os hg4.tape hg4.output hg4.size (fun k hk _ => hg4.block k hk (fun e => by cases e)))⟩
  have R4 := Aside.mk (hrow2.kept hg4 (Or.inr (by simp [Value.ownBlock])))
  have hw3 : w1.heap.size ≤ w3.heap.size := hg2.size
  clear hs4
  go_loopw [3] (fun v wr => ∃ (left : Lit → Bool) (cnt : Nat) (ss : List Nat), wr.ranges Tryd.prog 36 Rh mb w3.heap.size n D left cnt ∧ ss.length + cnt ≤ n ∧ wr.ownsRow w1.heap.size 36 1 v ss.length (ss.map e32) ∧ v ≠ .slice none 0 0 ∧ Coll L left ss ∧ Keeps Nowhere w1 wr) (fun _ wr => wr.rangeLeft mb w3.heap.size)
  case atStart => exact ⟨_, _, [], hrg4, by simp, R4.it, by simp, C0.it, K4.it⟩
  case round =>
    obtain ⟨left, cnt, ss, hrg, hcs, hrow, hnn, hC, hnx⟩ := hrel
    go_wp2_with (first
      | (at_next; refine wpList_next_ranges _ rfl _ rfl 36 keyed_ Rh (Value.int .u32) (fun c : Value => c) (fun key kl hk => by obtain ⟨x, hx, _⟩ := Maps.keyOf_int_inv Tryd.underlying36 hk; exact ⟨x, hx⟩) (fun v y _ => ⟨v, rfl⟩) mb w3.heap.size n _ _ _ rfl hrg ?_ ?_)
      | go_in)
    · intro hc0 hl0
      rcases hrow.2 with ⟨hnil, _⟩ | ⟨g, cap, cur, rfl, hbase, hb, h1, h2, h3, h4⟩
      · exact absurd hnil hnn
      have hp := hC.perm HU.it hl0
      have hlen : ss.length = n := by rw [hp.length_eq, len_ks]; exact HN.it
      have CS := Aside.mk (sort32 g cap ss wr (owns_any hrow) (by omega))
      have ES := Aside.mk (sort_ks HU.it hp)
      rw [hlen] at CS ⊢
      have HX := Aside.mk hnx
      have HB := Aside.mk hbase
      clear hrow hb h1 h2 h3 h4 hrg hC hnx hbase
      go_wp2_with (go_at_call 28; refine CS.it.mono ?_; rintro e w6 ⟨rfl, X⟩)
      go_ret
      refine ⟨g, cap, rfl, HB.it, ⟨?_⟩, ⟨HX.it.next X.it.2 (fun k e hlt => by have := HB.it; omega)⟩⟩
      have r := X.it.1
      rw [ES.it] at r
      exact owns_rebase r HB.it
    · intro z c kl0 yd yp w5 cnt5 hkey hlk hv hat5 hrg5 hlt hg5 hs5 hen
      obtain ⟨z', ez, rfl, hwf⟩ := Maps.keyOf_int_inv Tryd.underlying36 hkey
      injection ez with _ ez
      subst ez
      obtain ⟨x, rfl, hx⟩ := of_wf hwf
      have hsome : (tlook L x).isSome = true := by rw [← (HAT.it x hx).2]; exact Maps.has_true_of_atKey hat5
      have hrow5 := hrow.kept hg5 (Or.inr (row_ne_iter hrow hrg).symm)
      have K5 : Keeps Nowhere w1 w5 := hnx.next (keeps_of_grown hg5) (fun k e hlt => by omega)
      have HK5 := Aside.mk K5
      clear hs5 K5
      have b1 : ss.length + 1 ≤ maxLen := by omega
      have b2 : (ss.length + 1) * 4 ≤ 140737488355328 := by omega
      have b3 : ∀ o, w1.heap.size ≤ (w5.alloc o).heap.size := fun o => by have := HK5.it.size; rw [World.size_alloc]; omega
      go_wp2_with (first
        | (at_builtin; refine wpList_append_own _ rfl _ _ 51 rfl w1.heap.size 36 i0 (.int .u32 0) 1 4 Tryd.underlying51 hi hz0 hz1 hz2 rfl (by decide) _ _ _ rfl (hrow5.alloc _) ⟨w5.heap.size, 0, none⟩ 1 1 [e32 x] rfl rfl (cell_one_new _ _ _) (by simp [Value.oneCell']) b1 b2 (b3 _) ?_
           intro v6 w6 hown6 hg6 hnil6)
        | go_in)
      have hrg6 := (hrg5.alloc _).kept hg6 (row_ne_low hrow5 hmbl) (row_ne_iter hrow5 hrg5)
      go_roundw
      case rel =>
        refine ⟨_, cnt5, ss ++ [x], hrg6, by simp; omega, by simpa using hown6, fun hv' => by have := (hnil6.1 hv').2; omega, hC.step hx hlk hsome, ?_⟩
        exact (HK5.it.alloc _).next (grown_keeps hg6) (fun k e hlt => by have := (hrow5.lt k e).1; omega)
      case measure => rw [hrg6.left_eq, hrg.left_eq]; exact hlt
end Go.Proofs.YtcdgmbaimbmdmaaDoor.Tbint
