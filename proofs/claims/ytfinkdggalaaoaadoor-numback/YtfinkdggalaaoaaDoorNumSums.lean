/-
  NumSums: the walk.
-/
import Derived.Test.YtfinkdggalaaoaaDoorNumArith
namespace Go.Proofs.YtfinkdggalaaoaaDoor
open Go.RowKit

def addX (a b : Int) : Int := if a + b ≤ 4294967295 then a + b else 0
def addE (a b : Int) : Int := if a + b ≤ 4294967295 then 0 else 4
def subX (a b : Int) : Int := if b ≤ a then a - b else 0
def subE (a b : Int) : Int := if b ≤ a then 0 else 5
def narX (n : Int) : Int := if 0 ≤ n ∧ n ≤ 4294967295 then n else 0
def narE (n : Int) : Int := if 0 ≤ n ∧ n ≤ 4294967295 then 0 else 2

theorem add_any {A : Nat → Addr} (a b : Int) (w : World) (hs : Sents 74 codeVars A w) (ha : 0 ≤ a) (ha1 : a ≤ 4294967295) (hb : 0 ≤ b) :
    Calls Tryd.prog 17 #[.int .u32 a, .int .u32 b] w fun e w' => ∃ v, e = .returned (.tuple #[.int .u32 (addX a b), v]) ∧ Hid (Coded A v (addE a b)) ∧ Below w.heap.size w w' := by
  by_cases h : a + b ≤ 4294967295
  · refine (add_ok a b w ha hb h).mono ?_
    rintro e w' ⟨rfl, rfl⟩
    exact ⟨.nilIface, by rw [addX, if_pos h], by rw [addE, if_pos h]; exact Coded.none, Below.refl _ _⟩
  · refine (add_over a b w hs ha ha1 h).mono ?_
    rintro e w' ⟨rfl, hb⟩
    exact ⟨.iface 74 (.pointer (some (A 3))), by rw [addX, if_neg h], by rw [addE, if_neg h]; exact Coded.mk 3 4 (by decide) (by decide) rfl, hb⟩
theorem refAdd_any (a b : Int) (w : World) (ha : 0 ≤ a) (ha1 : a ≤ 4294967295) (hb : 0 ≤ b) (hb1 : b ≤ 4294967295) :
    Calls Tryd.prog 18 #[.int .u32 a, .int .u32 b] w fun e w' => e = .returned (.tuple #[.int .u32 (addX a b), .int .i64 (addE a b)]) ∧ w' = w := by
  by_cases h : a + b ≤ 4294967295
  · simpa [addX, addE, h] using refAdd_ok a b w ha hb h
  · simpa [addX, addE, h] using refAdd_over a b w ha ha1 hb hb1 h
theorem sub_any {A : Nat → Addr} (a b : Int) (w : World) (hs : Sents 74 codeVars A w) (ha1 : a ≤ 4294967295) (hb : 0 ≤ b) :
    Calls Tryd.prog 19 #[.int .u32 a, .int .u32 b] w fun e w' => ∃ v, e = .returned (.tuple #[.int .u32 (subX a b), v]) ∧ Hid (Coded A v (subE a b)) ∧ Below w.heap.size w w' := by
  by_cases h : b ≤ a
  · refine (sub_ok a b w ha1 hb h).mono ?_
    rintro e w' ⟨rfl, rfl⟩
    exact ⟨.nilIface, by rw [subX, if_pos h], by rw [subE, if_pos h]; exact Coded.none, Below.refl _ _⟩
  · refine (sub_under a b w hs h).mono ?_
    rintro e w' ⟨rfl, hb⟩
    exact ⟨.iface 74 (.pointer (some (A 4))), by rw [subX, if_neg h], by rw [subE, if_neg h]; exact Coded.mk 4 5 (by decide) (by decide) rfl, hb⟩
theorem refSub_any (a b : Int) (w : World) (ha1 : a ≤ 4294967295) (hb : 0 ≤ b) :
    Calls Tryd.prog 20 #[.int .u32 a, .int .u32 b] w fun e w' => e = .returned (.tuple #[.int .u32 (subX a b), .int .i64 (subE a b)]) ∧ w' = w := by
  by_cases h : b ≤ a
  · simpa [subX, subE, h] using refSub_ok a b w ha1 hb h
  · simpa [subX, subE, h] using refSub_under a b w h
theorem narrow_any {A : Nat → Addr} (n : Int) (w : World) (hs : Sents 74 codeVars A w) :
    Calls Tryd.prog 21 #[.int .i64 n] w fun e w' => ∃ v, e = .returned (.tuple #[.int .u32 (narX n), v]) ∧ Hid (Coded A v (narE n)) ∧ Below w.heap.size w w' := by
  by_cases h : 0 ≤ n ∧ n ≤ 4294967295
  · refine (narrow_ok n w h.1 h.2).mono ?_
    rintro e w' ⟨rfl, rfl⟩
    exact ⟨.nilIface, by rw [narX, if_pos h], by rw [narE, if_pos h]; exact Coded.none, Below.refl _ _⟩
  · refine (narrow_no n w hs (by omega)).mono ?_
    rintro e w' ⟨rfl, hb⟩
    exact ⟨.iface 74 (.pointer (some (A 1))), by rw [narX, if_neg h], by rw [narE, if_neg h]; exact Coded.mk 1 2 (by decide) (by decide) rfl, hb⟩
theorem refNarrow_any (n : Int) (w : World) :
    Calls Tryd.prog 22 #[.int .i64 n] w fun e w' => e = .returned (.tuple #[.int .u32 (narX n), .int .i64 (narE n)]) ∧ w' = w := by
  by_cases h : 0 ≤ n ∧ n ≤ 4294967295
  · simpa [narX, narE, h] using refNarrow_ok n w h.1 h.2
  · simpa [narX, narE, h] using refNarrow_no n w (by omega)

set_option maxHeartbeats 1000000 in
theorem numSums_walk {A : Nat → Addr} (a b n : Int) (w : World) (hs : Sents 74 codeVars A w) (ha : 0 ≤ a) (ha1 : a ≤ 4294967295) (hb : 0 ≤ b) (hb1' : b ≤ 4294967295) :
    Calls Tryd.prog 4 #[.int .u32 a, .int .u32 b, .int .i64 n] w fun e w' => e = .returned (.bool true) ∧ Below w.heap.size w w' := by
  go_enter Tryd.func4, Tryd.ntmps4
  go_wp2_with (first
    | (go_at_call 8; refine (awake_true _ hs).mono ?_; rintro e w1 ⟨rfl, hb1⟩; have hs1 := hs.later hb1)
    | (go_at_call 17; refine (add_any a b _ hs1 ha ha1 hb).mono ?_; rintro e w2 ⟨v2, rfl, hv2, hb2⟩; have hs2 := hs1.later hb2)
    | (go_at_call 18; refine (refAdd_any a b _ ha ha1 hb hb1').mono ?_; rintro e w' ⟨rfl, rfl⟩)
    | (go_at_call 19; refine (sub_any a b _ hs2 ha1 hb).mono ?_; rintro e w3 ⟨v3, rfl, hv3, hb3⟩; have hs3 := hs2.later hb3)
    | (go_at_call 20; refine (refSub_any a b _ ha1 hb).mono ?_; rintro e w' ⟨rfl, rfl⟩)
    | (go_at_call 21; refine (narrow_any n _ hs3).mono ?_; rintro e w4 ⟨v4, rfl, hv4, hb4⟩; have hs4 := hs3.later hb4)
    | (go_at_call 22; refine (refNarrow_any n _).mono ?_; rintro e w' ⟨rfl, rfl⟩)
    | (go_at_call 15; refine (code_of (A := A) (by assumption) (Hid.out (by assumption))).mono ?_; rintro e w' ⟨rfl, rfl⟩))
  go_ret
  exact ⟨rfl, ((hb1.trans (hb2.mono hb1.size)).trans (hb3.mono (Nat.le_trans hb1.size hb2.size))).trans (hb4.mono (Nat.le_trans (Nat.le_trans hb1.size hb2.size) hb3.size))⟩
end Go.Proofs.YtfinkdggalaaoaaDoor
