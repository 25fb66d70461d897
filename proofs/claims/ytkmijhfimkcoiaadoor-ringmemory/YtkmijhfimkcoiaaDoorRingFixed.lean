/-
  culvertlaw02's fixed ring
-/
import Derived.Test.YtkmijhfimkcoiaaDoorRingFint
import Derived.Test.YtkmijhfimkcoiaaDoorSameInts
namespace Go.Proofs.YtkmijhfimkcoiaaDoor
open Go.RowKit

set_option maxHeartbeats 2000000 in
set_option maxRecDepth 100000 in
theorem fixed_ok (w : World) : Calls Tryd.prog 4 #[] w fun e w' => e = .returned (.bool true) ∧ Below w.heap.size w w' := by
  go_enter Tryd.func4, Tryd.ntmps4
  go_wp2_with fail
  refine (Rint.new_good w 2 (by decide)).mono ?_
  rintro e w1 ⟨rfl, r1, k1⟩
  have R1 : Aside _ := ⟨r1⟩
  have K1 : Aside _ := ⟨k1⟩
  obtain ⟨p, hp⟩ : ∃ p, p = w.heap.size := ⟨_, rfl⟩
  rw [← hp] at R1 ⊢
  have HPS : Aside (p = w.heap.size) := ⟨hp⟩
  clear r1 k1 hp
  go_wp2_with fail
  obtain ⟨w2, hw2⟩ : ∃ w2, w2 = w1.alloc (.cells (iv [7, 8, 9]).toArray 3) := ⟨_, rfl⟩
  have ew : w1.alloc (.cells #[.int .i64 7, .int .i64 8, .int .i64 9] 3) = w2 := hw2.symm
  rw [ew]
  have ka : Keeps Nowhere w1 w2 := by rw [hw2]; exact (Keeps.refl _ _).alloc _
  have ra : RowAt w2 3 (.slice (some ⟨w1.heap.size, 0, none⟩) 3 3) (iv [7, 8, 9]) := by rw [hw2]; exact row_new w1 3 (iv [7, 8, 9])
  have h2 := R1.it.later ka (fun _ _ _ x => x)
  have hp := HPS.it
  refine (Rint.pushV h2 _ (iv [7, 8, 9]) (ra.reads (fun k hk => ?_)) (by simp [iv]) (iv_one _)).mono ?_
  · simp only [Value.ownBlock, Option.some.injEq] at hk
    subst hk
    rintro ⟨_, h⟩
    omega
  rintro e w3 ⟨rfl, r3, k3⟩
  have R3 : Aside _ := ⟨r3⟩
  have K3 : Aside (Below w.heap.size w w3) := ⟨below_next (K1.it.trans ka).bel k3 (K1.it.trans ka).size (fun k hk _ => by have := hk.1; omega)⟩
  have hS : ∀ k, Rint.Next (fun k => k = p ∧ k < w1.heap.size) w2.heap.size w2.heap.size k → w.heap.size ≤ k := by
    rintro k (⟨⟨h, _⟩, _⟩ | h)
    · omega
    · have := K1.it.size; have := ka.size; omega
  obtain ⟨S, hSe⟩ : ∃ S, S = Rint.Next (fun k => k = p ∧ k < w1.heap.size) w2.heap.size w2.heap.size := ⟨_, rfl⟩
  rw [← hSe] at R3 hS
  have HS : Aside _ := ⟨hS⟩
  clear r3 k3 ra h2 ka hw2 ew hSe hS R1 K1 hp
  rw [show (Nat.min (iv [7, 8, 9]).length (2 - ([] : List Value).length)) = 2 from rfl]
  have e3 : ([] : List Value) ++ (iv [7, 8, 9]).take (2 - ([] : List Value).length) = iv [7, 8] := rfl
  rw [e3] at R3
  clear e3
  go_wp2_with fail
  refine (Rint.peekV R3.it 9).mono ?_
  rintro e w4 ⟨s, rfl, hs, hfr, k4⟩
  have es : (iv [7, 8]).take (9 : Int).toNat = iv [7, 8] := rfl
  rw [es] at hs
  have HP : Aside _ := ⟨hs⟩
  have K4 : Aside _ := ⟨k4⟩
  clear hs hfr k4 es
  go_wp2_with fail
  obtain ⟨w5, hw5⟩ : ∃ w5, w5 = w4.alloc (.cells (iv [7, 8]).toArray 3) := ⟨_, rfl⟩
  have ew : w4.alloc (.cells #[.int .i64 7, .int .i64 8] 3) = w5 := hw5.symm
  rw [ew]
  have ka : Keeps Nowhere w4 w5 := by rw [hw5]; exact (Keeps.refl _ _).alloc _
  have ra : RowAt w5 3 (.slice (some ⟨w4.heap.size, 0, none⟩) 2 2) (iv [7, 8]) := by rw [hw5]; exact row_new w4 3 (iv [7, 8])
  refine (same_eq w5 s _ [7, 8] ((HP.it.later ka (fun _ _ x => x)).reads (fun _ _ x => x)) (ra.reads (fun _ _ x => x)) (by decide)).mono ?_
  rintro e w6 ⟨rfl, k6⟩
  have k36 := (K4.it.trans ka).trans k6
  have R6 : Aside _ := ⟨R3.it.later k36 (fun _ _ _ x => x)⟩
  have K6 : Aside (Below w.heap.size w w6) := ⟨K3.it.trans (k36.bel.mono K3.it.size)⟩
  clear ka ra ew hw5 k6 k36 HP K4 R3
  go_wp2_with fail
  refine (Rint.popV R6.it 1).mono ?_
  rintro e w7 ⟨s7, z7, rfl, hs7, hz1, hz2, hfr7, r7, k7⟩
  have e1 : (iv [7, 8]).take (1 : Int).toNat = iv [7] := rfl
  have e2 : (iv [7, 8]).drop (1 : Int).toNat = iv [8] := rfl
  rw [e1] at hs7
  rw [e2] at r7
  have HP7 : Aside _ := ⟨hs7⟩
  have R7 : Aside _ := ⟨r7⟩
  have K7 : Aside (Below w.heap.size w w7) := ⟨below_next K6.it k7 K6.it.size (fun k hk _ => HS.it k hk.1)⟩
  clear hs7 hz1 hz2 hfr7 r7 k7 e1 e2 R6 K6
  go_wp2_with fail
  obtain ⟨w8, hw8⟩ : ∃ w8, w8 = w7.alloc (.cells (iv [7]).toArray 3) := ⟨_, rfl⟩
  have ew : w7.alloc (.cells #[.int .i64 7] 3) = w8 := hw8.symm
  rw [ew]
  have ka : Keeps Nowhere w7 w8 := by rw [hw8]; exact (Keeps.refl _ _).alloc _
  have ra : RowAt w8 3 (.slice (some ⟨w7.heap.size, 0, none⟩) 1 1) (iv [7]) := by rw [hw8]; exact row_new w7 3 (iv [7])
  refine (same_eq w8 s7 _ [7] ((HP7.it.later ka (fun _ _ x => x)).reads (fun _ _ x => x)) (ra.reads (fun _ _ x => x)) (by decide)).mono ?_
  rintro e w9 ⟨rfl, k9⟩
  have k79 := ka.trans k9
  have R9 : Aside _ := ⟨R7.it.later k79 (fun _ _ _ x => x)⟩
  have K9 : Aside (Below w.heap.size w w9) := ⟨K7.it.trans (k79.bel.mono K7.it.size)⟩
  clear ka ra ew hw8 k9 k79 HP7 R7
  go_wp2_with fail
  have L := Rint.lenV R9.it
  rw [show ((iv [8]).length : Int) = 1 from rfl] at L
  refine L.mono ?_
  clear L
  rintro e w10 ⟨rfl, rfl⟩
  go_wp2_with fail
  have F := Rint.freeV R9.it
  rw [show ((2 : Nat) : Int) - ((iv [8]).length : Int) = 1 from rfl] at F
  refine F.mono ?_
  clear F
  rintro e w11 ⟨rfl, rfl⟩
  go_wp2
  go_ret
  exact ⟨rfl, K9.it⟩
end Go.Proofs.YtkmijhfimkcoiaaDoor
