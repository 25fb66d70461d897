/-
  layer 21's law: fixed; PlaceNames
-/
import Derived.Test.YtnhgpnkomkiniaaDoorPlC
namespace Go.Proofs.YtnhgpnkomkiniaaDoor
open Go.RowKit

variable {A : Nat → Addr} {w w' W : World}

abbrev ld (o f : Int) : LoadV := ⟨true, false, o, f⟩
theorem isPick_a : IsPick 2 [ld 1 9, ld 0 9, ld 0 9] 1 := by
  refine ⟨ld 0 9, rfl, by decide, fun j y hj _ => ?_⟩
  match j, hj with
  | 0, hj => cases hj; exact .inl (by decide)
  | 1, hj => cases hj; exact .inr ⟨rfl, by decide⟩
  | 2, hj => cases hj; exact .inr ⟨rfl, by decide⟩
theorem isPick_b : IsPick 2 [ld 2 9, ld 1 0, ld 1 3] 2 := by
  refine ⟨ld 1 3, rfl, by decide, fun j y hj hm => ?_⟩
  match j, hj with
  | 0, hj => cases hj; cases hm
  | 1, hj => cases hj; cases hm
  | 2, hj => cases hj; exact .inr ⟨rfl, by decide⟩
theorem isPick_c : IsPick 2 [⟨false, false, 0, 0⟩, ld 1 9, ⟨true, true, 0, 9⟩] 1 := by
  refine ⟨ld 1 9, rfl, by decide, fun j y hj hm => ?_⟩
  match j, hj with
  | 0, hj => cases hj; cases hm
  | 1, hj => cases hj; exact .inr ⟨rfl, by decide⟩
  | 2, hj => cases hj; cases hm

set_option maxHeartbeats 2000000 in
theorem fixed21 (hs : Sents 61 codeVars A w) : Calls Tryd.prog 10 #[] w fun e w' => e = .returned (.bool true) ∧ Aside (Keeps Nowhere w w') := by
  have HS := Aside.mk hs
  have KK : Aside (Keeps Nowhere w w) := ⟨Keeps.refl _ _⟩
  have B1 : Aside (Bds [ld 1 9, ld 0 9, ld 0 9]) := ⟨fun z hz => by simp only [List.mem_cons, List.not_mem_nil, or_false] at hz; rcases hz with rfl | rfl | rfl <;> decide⟩
  clear hs
  go_enter Tryd.func10, Tryd.ntmps10
  go_upto_region 2 with (first
    | (go_at_call 9; refine (load_ok _ _ _).mono ?_; rintro e w1 ⟨rfl, K1⟩; replace KK := Aside.mk (KK.it.trans K1.it); clear K1)
    | (go_at_call 8; refine (pick_okI _ [ld 1 9, ld 0 9, ld 0 9] 2 1 1 rfl isPick_a (lds_new _ _ _ rfl B1.it 3 rfl (by decide)) (HS.it.later (KK.it.alloc _).bel)).mono ?_; rintro e w4 ⟨rfl, K4⟩; replace KK := Aside.mk ((KK.it.alloc _).trans K4.it); clear K4)
    | fail)
  go_upto_region 3 with (first
    | (go_at_call 8; refine (pick_no _ [] 2 NoneMay.nil.1 (lds_nil _) (HS.it.later KK.it.bel)).mono ?_; rintro e w5 ⟨q, rfl, C5, K5⟩; replace KK := Aside.mk (KK.it.trans K5.it); clear K5)
    | fail)
  have CD := Aside.mk (code_of (HS.it.later KK.it.bel) C5.out)
  have hw : whyN 2 [] = 35 := rfl
  rw [hw] at CD
  go_wp2_with (first
    | (go_at_call 11; refine CD.it.mono ?_; rintro e w6 ⟨rfl, rfl⟩)
    | fail)
  go_ret
  exact ⟨rfl, KK⟩
end Go.Proofs.YtnhgpnkomkiniaaDoor
