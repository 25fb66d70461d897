/-
  layer 6's laws: wakes, copied
-/
import Derived.Test.YtfphoaphdfhhiaaDoorOutE
import Derived.Lib.SlBytesConst
namespace Go.Proofs.YtfphoaphdfhhiaaDoor
open Go.RowKit

section
variable {own own' : Nat → Nat} {i j : Nat} {w w' : World} {p qp tot : Nat} {q : List (Nat × Nat)} {rs : List (List Int)} {r : List Int} {I : Nat → Prop} {A : Nat → Addr}

theorem rd_const (w : World) (xs : List Int) (fr : Nat × Nat) : Rd (w.alloc (.cells (bv xs).toArray 5 fr)) (.slice (some ⟨w.heap.size, 0, none⟩) xs.length xs.length) xs := by
  have h := reads_mark Nowhere w 5 (bv xs) fr (fun x => x)
  rw [bv_length] at h
  exact ⟨h, fun l c e => by injection e with e; cases e⟩
set_option maxHeartbeats 2000000 in
theorem wakes_any (hs : Sents 103 codeVars A w) : Calls Tryd.prog 4 #[] w fun e w' => e = .returned (.bool true) ∧ Below w.heap.size w w' := by
  have G0 := Aside.mk (OnG.start hs)
  clear hs
  go_enter Tryd.func4, Tryd.ntmps4
  go_upto_region 4 with ((go_at_call 5; refine (newB w (fun _ => 0) 2 3).mono ?_; rintro e w1 ⟨p, own1, rfl, X1⟩))
  have G1 := Aside.mk (G0.it.sn X1.it.2 (fun x => x))
  have kc := Lib.run_convert_bytes_const (P := Tryd.prog) w1 35 5 #[.int .u8 97, .int .u8 98, .int .u8 99] 3 3 Tryd.underlying35 Tryd.underlying5
  have K1 : Aside (Keeps Nowhere w1 (w1.alloc (.cells #[.int .u8 97, .int .u8 98, .int .u8 99] 5 (3, 4)))) := ⟨(Keeps.refl _ _).alloc _⟩
  have P1 := Aside.mk (putB_ok (A := A) (by decide) (X1.it.1.quiet K1.it) (G1.it.quiet K1.it).sents 0 0 0 1 3 _ [97, 98, 99] (rd_const w1 [97, 98, 99] (3, 4)) (by decide) (by decide) (by decide) (by decide) (by decide) (by decide) (by decide) rfl (by decide) (by decide))
  go_upto_region 5 with (first | (go_at_call 11; refine P1.it.mono ?_; rintro e w2 ⟨own2, rfl, X2⟩) | fail)
  clear P1 kc
  have G2 := Aside.mk ((G1.it.quiet K1.it).sn X2.it.2 (by decide))
  have P2 := Aside.mk (putB_ok (A := A) (by decide) X2.it.1 G2.it.sents 0 2 1 0 7 (.slice none 0 0) [] ⟨⟨none, 0, rfl, Nat.le_refl _, fun j u h => by simp [bv] at h⟩, fun l c e => by injection e with _ _ e; exact e.symm⟩ (by decide) (by decide) (by decide) (by decide) (by decide) (by decide) (by decide) rfl (by decide) (by decide))
  go_upto_region 6 with (first | (go_at_call 11; refine P2.it.mono ?_; rintro e w3 ⟨own3, rfl, X3⟩) | fail)
  clear P2 X2 X1 K1
  have G3 := Aside.mk (G2.it.sn X3.it.2 (by decide))
  have B3 := Aside.mk X3.it.1
  have e0 : Aside (([] ++ [enc 0 0 0 1 3 ++ [97, 98, 99]] ++ [enc 0 2 1 0 7 ++ []] : List (List Int)) = [[0, 0, 0, 0, 0, 0, 0, 1, 0, 0, 0, 3, 97, 98, 99], [0, 2, 0, 1, 0, 0, 0, 0, 0, 0, 0, 7]]) := ⟨by kernel_rfl⟩
  rw [e0.it] at B3
  clear X3 e0 G1 G0 G2
  obtain ⟨R0, hR0⟩ : ∃ R0, R0 = [[0, 0, 0, 0, 0, 0, 0, 1, 0, 0, 0, 3, 97, 98, 99], [0, 2, 0, 1, 0, 0, 0, 0, 0, 0, 0, (7 : Int)]] := ⟨_, rfl⟩
  have f1 : Aside (R0.flatten.length = 27 ∧ R0.length = 2 ∧ (leftN R0 (14 : Int).toNat).flatten.length = 13 ∧ strOf (R0.flatten.take (14 : Int).toNat) = ⟨#[0, 0, 0, 0, 0, 0, 0, 1, 0, 0, 0, 3, 97, 98]⟩) := ⟨by subst hR0; exact ⟨rfl, rfl, by kernel_rfl, by kernel_rfl⟩⟩
  rw [← hR0] at B3
  clear hR0
  have L3 := Aside.mk (lenB B3.it)
  rw [f1.it.1] at L3
  have F3 := Aside.mk (fun W k => framesB (B3.it.quiet (w' := W) k))
  rw [f1.it.2.1] at F3
  have T3 := Aside.mk (fun W k => takeB (o := 4) (by decide) (by decide) (by decide) (B3.it.quiet (w' := W) k) (by decide) 14)
  go_wp2_with (first
    | (go_at_call 13; refine (L6.it).mono ?_; rintro e w7 ⟨rfl, k7⟩)
    | (go_at_call 8; refine (T3.it w5 (k4.it.trans k5.it)).mono ?_; rintro e w6 ⟨x6, own6, rfl, X6⟩; have L6 := Aside.mk (lenB X6.it.buf); rw [f1.it.2.2.1] at L6; have sc := run_bytesStr (P := Tryd.prog) w6 35 9 5 _ _ Tryd.underlying35 Tryd.underlying5 Tryd.underlying9 X6.it.row.rd.holds; rw [f1.it.2.2.2] at sc)
    | (go_at_call 14; refine (F3.it w4 k4.it).mono ?_; rintro e w5 ⟨rfl, k5⟩)
    | (go_at_call 13; refine L3.it.mono ?_; rintro e w4 ⟨rfl, k4⟩)
    | fail)
  go_ret
  refine ⟨rfl, ?_⟩
  exact (((((G3.it.quiet (k4.it.trans k5.it))).sn X6.it.sn (by decide)).quiet k7.it).g.bel)
end
end Go.Proofs.YtfphoaphdfhhiaaDoor
