/-
  culvertlaw22: sameInts, wakes; places compared; HandlesNil
-/
import Derived.Test.YtjloedcikcamkaaDoorHnD
import Derived.Test.YtjloedcikcamkaaDoorOpenHn
import Derived.LaidEql
namespace Go.Proofs.YtjloedcikcamkaaDoor
open Go.RowKit

variable {w w' W w0 : World} {A : Nat → Addr} {own own' : Nat → Nat}
def natOfS : Value → Nat | .int _ q => q.toNat | _ => 0
theorem same_ints22 (a b : Value) (l : List Int) (ha : RdI w a l) (hb : RdI w b l) :
    Calls Tryd.prog 21 #[a, b] w fun e w' => e = .returned (.bool true) ∧ Aside (Keeps Nowhere w w') := by
  obtain ⟨pa, ca, rfl, hla, hma, hca⟩ := ha
  obtain ⟨pb, cb, rfl, hlb, hmb, hcb⟩ := hb
  obtain ⟨n, hn⟩ : ∃ n, n = l.length := ⟨_, rfl⟩
  have hl : n ≤ 9223372036854775807 := by unfold maxLen at hma; omega
  have CA : Aside (∀ k, k < n → ∃ x o u, pa = some ⟨x, o, none⟩ ∧ l[k]? = some u ∧ w.cell? ⟨x, o + k, none⟩ = some (.int .i64 u)) := ⟨by
    intro k hk
    have e := List.getElem?_eq_getElem (l := l) (i := k) (by omega)
    obtain ⟨_, g, o, h1, h2⟩ := hca k _ e
    exact ⟨g, o, _, h1, e, h2⟩⟩
  have CB : Aside (∀ k u, l[k]? = some u → ∃ x o, pb = some ⟨x, o, none⟩ ∧ w.cell? ⟨x, o + k, none⟩ = some (.int .i64 u)) := ⟨fun k u e => (hcb k u e).2⟩
  rw [← hn] at hla hlb ⊢
  clear hca hcb hn hma hmb
  go_enter Tryd.func21, Tryd.ntmps21
  go_wp2
  go_loopw [5] (fun i wr => ∃ k : Nat, k ≤ n ∧ i = .int .i64 k ∧ Aside (Keeps Nowhere w wr)) (fun i _ => n - natOfS i)
  case atStart => exact ⟨0, Nat.zero_le _, rfl, ⟨Keeps.refl _ _⟩⟩
  case round =>
    obtain ⟨k, hk, rfl, HB⟩ := hrel
    by_cases hkl : k < n
    · obtain ⟨x, o, u, rfl, hu, hx⟩ := CA.it k hkl
      obtain ⟨y, o2, rfl, hy⟩ := CB.it k u hu
      have cx : wr.cell? ⟨x, o + k, none⟩ = some (.int .i64 u) := by rw [HB.it.bel.cell (World.block_lt_of_cell? w _ hx)]; exact hx
      have cy : wr.cell? ⟨y, o2 + k, none⟩ = some (.int .i64 u) := by rw [HB.it.bel.cell (World.block_lt_of_cell? w _ hy)]; exact hy
      clear hx hy hu CA CB
      go_wp2_with fail
      go_quiet (fail)
      go_wp2
      go_roundw
      case rel => exact ⟨k + 1, by omega, by go_num, ⟨HB.it.drewN _⟩⟩
      case measure => simp [natOfS]; omega
    · obtain rfl : k = n := by omega
      go_wp2_with fail
      go_ret
      exact ⟨rfl, HB⟩
theorem new_rdI (w : World) (t : TypeId) (fr : Nat × Nat) (l : List Int) (hl : l.length ≤ maxLen) (hz : ∀ z ∈ l, -9223372036854775808 ≤ z ∧ z ≤ 9223372036854775807) : RdI (w.alloc (.cells (l.map (Value.int .i64)).toArray t fr)) (.slice (some ⟨w.heap.size, 0, none⟩) l.length l.length) l := by
  refine ⟨_, _, rfl, Nat.le_refl _, hl, fun j k hj => ⟨hz k (List.mem_of_getElem? hj), _, _, rfl, ?_⟩⟩
  rw [Nat.zero_add]
  unfold World.cell?
  rw [heap_alloc_new]
  simp [List.getElem?_map, hj]
theorem pl_eql (c l : Int) (d : Nat) (w : World) : (binOp .eql 33 (.agg #[.int .i64 c, .int .i64 l, .int .u32 (d : Nat)]) (.agg #[.int .i64 c, .int .i64 l, .int .u32 (d : Nat)])).run Tryd.prog w = .ok (.bool true) w := by
  have hst : Tryd.prog.stoodInHeld 33 = false := by kernel_rfl
  have hfo : Tryd.prog.underlying 33 = some (.struct (Tryd.prog.fieldsOf 33)) := by kernel_rfl
  have h := run_equalIn_agg (P := Tryd.prog) (w := w) 9999 33 #[.int .i64 c, .int .i64 l, .int .u32 (d : Nat)] #[.int .i64 c, .int .i64 l, .int .u32 (d : Nat)] hfo hst
  rw [run_eql_struct, h]
  clear h hst hfo
  simp only [Program.fieldsOf, Tryd.underlying33]
  simp [Op.eqFields, go_sem]

set_option maxHeartbeats 1000000 in
theorem wakes22 (hs : Sents 113 codeVars A w) : Calls Tryd.prog 8 #[] w fun e w' => e = .returned (.bool true) ∧ Aside (Keeps Nowhere w w') := by
  have G0 := Aside.mk (OnG.start hs)
  have N := Aside.mk (new_at w (fun _ => 0) 1)
  have w1p : (⟨0, 1, 1⟩ : Pl).Wide := ⟨by decide, by decide, by decide, by decide, by decide⟩
  have w3p : (⟨0, 1, 3⟩ : Pl).Wide := ⟨by decide, by decide, by decide, by decide, by decide⟩
  have W1P := Aside.mk w1p
  have W3P := Aside.mk w3p
  clear hs w1p w3p
  go_enter Tryd.func8, Tryd.ntmps8
  go_upto_region 4 with (go_at_call 9; refine N.it.mono ?_; rintro e w1 ⟨p, own1, rfl, X1⟩)
  have G1 := Aside.mk (G0.it.sn X1.it.2.2 (fun x => x))
  have T1 := Aside.mk X1.it.1
  clear X1 N G0
  have P1 : Aside (Calls Tryd.prog 14 #[ptr p, .agg #[.int .i64 0, .int .i64 1, .int .u32 1]] w1 fun e w' => ∃ ev, e = .returned (.tuple #[.int .i64 1, ev]) ∧ Hid (Coded A ev 0) ∧ Aside (HnO own1 1 w' p 1 [(1, ⟨0, 1, 1⟩)] ∧ Sn (fun k => k = 1) own1 w1 own1 w')) := ⟨bind_at (x := ⟨0, 1, 1⟩) T1.it W1P.it G1.it.sents⟩
  go_upto_region 5 with (go_at_call 14; refine P1.it.mono ?_; rintro e w2 ⟨ev2, rfl, C2, X2⟩; have e2 : ev2 = .nilIface := Coded.zero C2.out; subst e2)
  have T2 := Aside.mk X2.it.1
  have G2 := Aside.mk (G1.it.sn X2.it.2 (by decide))
  clear P1 X2 C2 G1 T1
  have P2 : Aside (Calls Tryd.prog 14 #[ptr p, .agg #[.int .i64 0, .int .i64 1, .int .u32 3]] w2 fun e w' => ∃ ev, e = .returned (.tuple #[.int .i64 2, ev]) ∧ Hid (Coded A ev 0) ∧ Aside (HnO own1 1 w' p 2 [(1, ⟨0, 1, 1⟩), (2, ⟨0, 1, 3⟩)] ∧ Sn (fun k => k = 1) own1 w2 own1 w')) := ⟨bind_at (x := ⟨0, 1, 3⟩) T2.it W3P.it G2.it.sents⟩
  go_upto_region 6 with (go_at_call 14; refine P2.it.mono ?_; rintro e w3 ⟨ev3, rfl, C3, X3⟩; have e3 : ev3 = .nilIface := Coded.zero C3.out; subst e3)
  have T3 := Aside.mk X3.it.1
  have G3 := Aside.mk (G2.it.sn X3.it.2 (by decide))
  clear P2 X3 C3 G2 T2
  have P3 : Aside (Calls Tryd.prog 14 #[ptr p, .agg #[.int .i64 0, .int .i64 1, .int .u32 1]] w3 fun e w' => ∃ ev, e = .returned (.tuple #[.int .i64 0, ev]) ∧ Hid (Coded A ev 8) ∧ Aside (HnO own1 1 w' p 2 [(1, ⟨0, 1, 1⟩), (2, ⟨0, 1, 3⟩)] ∧ Sn (fun k => k = 1) own1 w3 own1 w')) := ⟨bind_at (x := ⟨0, 1, 1⟩) T3.it W1P.it G3.it.sents⟩
  go_upto_region 7 with (go_at_call 14; refine P3.it.mono ?_; rintro e w4 ⟨ev4, rfl, C4, X4⟩)
  have T4 := Aside.mk X4.it.1
  have G4 := Aside.mk (G3.it.sn X4.it.2 (by decide))
  have HC4 := Aside.mk C4.out
  clear P3 X4 G3 T3 C4
  have P4 : Aside (Calls Tryd.prog 13 #[ptr p, .agg #[.int .i64 0, .int .i64 1, .int .u32 3]] w4 fun e w' => e = .returned (.tuple #[.int .i64 2, .bool true]) ∧ Aside (Keeps Nowhere w4 w')) := ⟨of_at (x := ⟨0, 1, 3⟩) T4.it W3P.it⟩
  go_upto_region 8 with (go_at_call 13; refine P4.it.mono ?_; rintro e w5 ⟨rfl, K5⟩)
  have T5 := Aside.mk (T4.it.quiet K5.it)
  have G5 := Aside.mk (G4.it.quiet K5.it)
  clear P4 T4 G4
  have CD := Aside.mk (code_of G5.it.sents HC4.it)
  have ON : Aside (Calls Tryd.prog 18 #[ptr p, .int .i64 0, .int .i64 1] w5 fun e w' => ∃ v, e = .returned v ∧ Aside (RwI w5 w' v [1, 2]) ∧ Aside (Keeps Nowhere w5 w')) := ⟨on_at T5.it 0 1⟩
  go_wp2_with (first
    | (go_at_call 15; refine CD.it.mono ?_; rintro e w7 ⟨rfl, hw7⟩; subst hw7)
    | (go_at_call 18; refine ON.it.mono ?_; rintro e w8 ⟨v8, rfl, R8, K8⟩)
    | fail)
  have bz : ∀ z ∈ ([1, 2] : List Int), -9223372036854775808 ≤ z ∧ z ≤ 9223372036854775807 := by decide
  have r1 : RdI (w8.alloc (.cells #[.int .i64 1, .int .i64 2] 3)) v8 [1, 2] := (R8.it.rdI bz).quiet ((Keeps.refl _ _).alloc _)
  have r2 : RdI (w8.alloc (.cells #[.int .i64 1, .int .i64 2] 3)) (.slice (some ⟨w8.heap.size, 0, none⟩) 2 2) [1, 2] := new_rdI w8 3 (0, 0) [1, 2] (by decide) bz
  have SM := Aside.mk (same_ints22 _ _ _ r1 r2)
  clear r1 r2 bz
  refine SM.it.mono ?_
  rintro e w9 ⟨rfl, K9⟩
  go_wp2_with fail
  go_ret
  exact ⟨rfl, ⟨((Keeps.ofBelow G5.it.g.bel).trans (K8.it.alloc _)).trans K9.it⟩⟩
end Go.Proofs.YtjloedcikcamkaaDoor
