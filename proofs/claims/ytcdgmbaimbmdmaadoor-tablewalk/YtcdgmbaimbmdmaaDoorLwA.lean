/-
  culvertlaw15: sameIDs; wakes; Count of nothing
-/
import Derived.Test.YtcdgmbaimbmdmaaDoorTbEint
import Derived.Test.YtcdgmbaimbmdmaaDoorTbCint
import Derived.Test.YtcdgmbaimbmdmaaDoorSn
import Derived.Test.YtcdgmbaimbmdmaaDoorCodedZ
namespace Go.Proofs.YtcdgmbaimbmdmaaDoor
open Go.RowKit Tbint

variable {w w' W w0 : World} {A : Nat → Addr} {own own' : Nat → Nat}

/-- a list of numbers of 32 bits that can be read -/
def RdU (w : World) (v : Value) (l : List Nat) : Prop :=
  ∃ a c, v = .slice a l.length c ∧ l.length ≤ c ∧ c ≤ maxLen ∧ ∀ (j k : Nat), l[j]? = some k → ∃ g o, a = some ⟨g, o, none⟩ ∧ w.cell? ⟨g, o + j, none⟩ = some (.int .u32 k)
theorem RdU.later {v : Value} {l : List Nat} (h : RdU w v l) (hb : Below w.heap.size w w') : RdU w' v l := by
  obtain ⟨a, c, e, h1, h2, h3⟩ := h
  refine ⟨a, c, e, h1, h2, fun j k hj => ?_⟩
  obtain ⟨g, o, ha, hc⟩ := h3 j k hj
  exact ⟨g, o, ha, by rw [hb.cell (World.block_lt_of_cell? w _ hc)]; exact hc⟩
theorem RdU.quiet {v : Value} {l : List Nat} (h : RdU w v l) (k : Keeps Nowhere w w') : RdU w' v l := h.later k.bel
theorem owns_rdU {base : Nat} {e : TypeId} {v : Value} {n : Nat} {l : List Nat} (h : w.ownsRow base e 1 v n (l.map e32)) : RdU w v l := by
  have hl : l.length = n := by have := h.1; rw [List.length_map] at this; omega
  subst hl
  rcases h.2 with ⟨rfl, h0⟩ | ⟨g, cap, cur, rfl, hb, hc, hn, hm, hs, ht⟩
  · have : l = [] := List.eq_nil_of_length_eq_zero h0
    subst this
    exact ⟨none, 0, rfl, Nat.le_refl _, Nat.zero_le _, fun j k hj => by simp at hj⟩
  · refine ⟨_, cap, rfl, hn, hm, fun j k hj => ⟨g, 0, rfl, ?_⟩⟩
    have := h.cells rfl j (e32 k) (by rw [List.getElem?_map, hj]; rfl)
    rwa [add_none] at this
theorem new_rdU (w : World) (t : TypeId) (fr : Nat × Nat) (l : List Nat) (hl : l.length ≤ maxLen) : RdU (w.alloc (.cells (l.map e32).toArray t fr)) (.slice (some ⟨w.heap.size, 0, none⟩) l.length l.length) l := by
  refine ⟨_, _, rfl, Nat.le_refl _, hl, fun j k hj => ⟨_, _, rfl, ?_⟩⟩
  rw [Nat.zero_add]
  unfold World.cell?
  rw [heap_alloc_new]
  simp [List.getElem?_map, hj]

def intOf15 : Value → Int | .int _ q => q | _ => 0
theorem same_ids (a b : Value) (l : List Nat) (ha : RdU w a l) (hb : RdU w b l) :
    Calls Tryd.prog 13 #[a, b] w fun e w' => e = .returned (.bool true) ∧ Aside (Keeps Nowhere w w') := by
  obtain ⟨pa, ca, rfl, hla, hma, hca⟩ := ha
  obtain ⟨pb, cb, rfl, hlb, hmb, hcb⟩ := hb
  obtain ⟨n, hn⟩ : ∃ n, n = l.length := ⟨_, rfl⟩
  have hl : n ≤ 9223372036854775807 := by unfold maxLen at hma; omega
  have CA : Aside (∀ k, k < n → ∃ x o u, pa = some ⟨x, o, none⟩ ∧ l[k]? = some u ∧ w.cell? ⟨x, o + k, none⟩ = some (.int .u32 (u : Nat))) := ⟨by
    intro k hk
    have e := List.getElem?_eq_getElem (l := l) (i := k) (by omega)
    obtain ⟨g, o, h1, h2⟩ := hca k _ e
    exact ⟨g, o, _, h1, e, h2⟩⟩
  have CB : Aside (∀ k u, l[k]? = some u → ∃ x o, pb = some ⟨x, o, none⟩ ∧ w.cell? ⟨x, o + k, none⟩ = some (.int .u32 (u : Nat))) := ⟨fun k u e => hcb k u e⟩
  rw [← hn] at hla hlb ⊢
  clear hca hcb hn hma hmb
  go_enter Tryd.func13, Tryd.ntmps13
  go_wp2
  go_loopw [5] (fun i wr => ∃ k : Nat, k ≤ n ∧ i = .int .i64 k ∧ Aside (Keeps Nowhere w wr)) (fun i _ => n - natOf i)
  case atStart => exact ⟨0, Nat.zero_le _, rfl, ⟨Keeps.refl _ _⟩⟩
  case round =>
    obtain ⟨k, hk, rfl, HB⟩ := hrel
    by_cases hkl : k < n
    · obtain ⟨x, o, u, rfl, hu, hx⟩ := CA.it k hkl
      obtain ⟨y, o2, rfl, hy⟩ := CB.it k u hu
      have cx : wr.cell? ⟨x, o + k, none⟩ = some (.int .u32 u) := by rw [HB.it.bel.cell (World.block_lt_of_cell? w _ hx)]; exact hx
      have cy : wr.cell? ⟨y, o2 + k, none⟩ = some (.int .u32 u) := by rw [HB.it.bel.cell (World.block_lt_of_cell? w _ hy)]; exact hy
      clear hx hy hu CA CB
      go_wp2_with fail
      go_quiet (fail)
      go_wp2
      go_roundw
      case rel => exact ⟨k + 1, by omega, by go_num, ⟨HB.it.drewN _⟩⟩
      case measure => simp [natOf]; omega
    · obtain rfl : k = n := by omega
      go_wp2_with fail
      go_ret
      exact ⟨rfl, HB⟩

theorem count_none (x0 : Value) (w : World) : Calls Tryd.prog 23 #[x0, .nilFunc] w fun e w' => e = .returned (.int .i64 0) ∧ Aside (Keeps Nowhere w w') := by
  have nf : ∀ W : World, (binOp BinOp.eql 65 .nilFunc .nilFunc).run Tryd.prog W = .ok (.bool true) W := fun W => by kernel_rfl
  refine (callsIn_wide (n := 3)).1 ?_
  refine callsIn_of_wp_marks Tryd.func23 rfl trivial ?_ rfl
  simp only [Tryd.ntmps23, List.size_toArray, List.length_cons, List.length_nil, Nat.reduceAdd, Nat.reduceSub, Array.replicate_succ, Array.replicate_zero, List.push_toArray, List.append_toArray, List.nil_append, List.cons_append]
  gi_wp2
  exact ⟨_, results_tmp rfl _ _ _, rfl, ⟨(Keeps.refl _ _).alloc _⟩⟩

set_option maxHeartbeats 1000000 in
theorem wakes15 (hs : Sents 110 codeVars A w) : Calls Tryd.prog 4 #[] w fun e w' => e = .returned (.bool true) ∧ Aside (Keeps Nowhere w w') := by
  have G0 := Aside.mk (OnG.start hs)
  have N := Aside.mk (new_ok 2 (by decide) w (fun _ => 0) 1)
  clear hs
  go_enter Tryd.func4, Tryd.ntmps4
  go_upto_region 2 with (go_at_call 5; refine N.it.mono ?_; rintro e w1 ⟨p, own1, rfl, X1⟩)
  have G1 := Aside.mk (G0.it.sn X1.it.2.2 (fun x => x))
  have T1 := Aside.mk X1.it.1
  have AL := Aside.mk (all_at X1.it.1)
  clear X1 N G0
  go_upto_region 4 with (go_at_call 8; refine AL.it.mono ?_; rintro e w2 ⟨bi, bs, rfl, W2, K2⟩; have nn := walk_not_nil w2 bi bs)
  clear nn
  have G2 := Aside.mk (G1.it.quiet K2.it)
  have T2 := Aside.mk (T1.it.quiet K2.it)
  have P1 := Aside.mk (put_at T2.it (k := 7) (by decide) 1 G2.it.sents)
  clear G1 T1 AL W2
  go_wp2_with fail
  refine P1.it.mono ?_
  rintro e w3 ⟨ev3, rfl, C3, X3⟩
  have e3 : ev3 = .nilIface := Coded.zero C3.out
  subst e3
  have T3 := Aside.mk X3.it.1
  have G3 := Aside.mk (G2.it.sn X3.it.2 (by decide))
  clear P1 X3 C3 G2 T2
  have P2 := Aside.mk (put_at T3.it (k := 3) (by decide) 2 G3.it.sents)
  go_wp2_with fail
  refine P2.it.mono ?_
  rintro e w4 ⟨ev4, rfl, C4, X4⟩
  have e4 : ev4 = .nilIface := Coded.zero C4.out
  subst e4
  have T4 := Aside.mk X4.it.1
  have G4 := Aside.mk (G3.it.sn X4.it.2 (by decide))
  clear P2 X4 C4 G3 T3
  have P3 := Aside.mk (put_at T4.it (k := 5) (by decide) 3 G4.it.sents)
  go_wp2_with fail
  refine P3.it.mono ?_
  rintro e w5 ⟨ev5, rfl, C5, X5⟩
  have T5 : Aside (TbO own1 1 w5 p 2 [(3, 2), (7, 1)]) := ⟨X5.it.1⟩
  have G5 := Aside.mk (G4.it.sn X5.it.2 (by decide))
  have CD := Aside.mk (code_of G5.it.sents (show Coded A ev5 6 from C5.out))
  have GT := Aside.mk (Tbint.get_at T5.it (k := 7) (by decide))
  have ID := Aside.mk (ids_at T5.it)
  clear P3 X5 G4 T4
  go_upto_region 6 with (go_at_call 11; refine GT.it.mono ?_; rintro e w6 ⟨rfl, hw6⟩; subst hw6)
  have g1 : gotV (tlook [(3, 2), (7, 1)] 7) = .int .i64 1 := rfl
  have g2 : (tlook [((3 : Nat), (2 : Int)), (7, 1)] 7).isSome = true := rfl
  rw [g1, g2]
  clear GT
  go_wp2_with (first
    | (go_at_call 12; refine CD.it.mono ?_; rintro e w7 ⟨rfl, hw7⟩; subst hw7)
    | (go_at_call 14; refine ID.it.mono ?_; rintro e w8 ⟨g, cap, rfl, hg, R8, K8⟩)
    | fail)
  have r1 : RdU (w8.alloc (.cells #[.int .u32 3, .int .u32 7] 36)) (.slice (some ⟨g, 0, none⟩) 2 cap) [3, 7] := RdU.quiet (owns_rdU R8.it) ((Keeps.refl _ _).alloc _)
  have r2 : RdU (w8.alloc (.cells #[.int .u32 3, .int .u32 7] 36)) (.slice (some ⟨w8.heap.size, 0, none⟩) 2 2) [3, 7] := new_rdU w8 36 (0, 0) [3, 7] (by decide)
  have SM := Aside.mk (same_ids _ _ _ r1 r2)
  clear r1 r2
  refine SM.it.mono ?_
  rintro e w9 ⟨rfl, K9⟩
  go_wp2_with fail
  go_ret
  exact ⟨rfl, ⟨((Keeps.ofBelow G5.it.g.bel).trans (K8.it.alloc _)).trans K9.it⟩⟩
end Go.Proofs.YtcdgmbaimbmdmaaDoor
