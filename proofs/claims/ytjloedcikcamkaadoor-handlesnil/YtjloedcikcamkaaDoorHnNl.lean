/-
  culvertlaw22.HandlesNil
-/
import Derived.Test.YtjloedcikcamkaaDoorHnS
namespace Go.Proofs.YtjloedcikcamkaaDoor
open Go.RowKit

variable {w w' W w0 : World} {A : Nat → Addr} {own own' : Nat → Nat}
set_option maxHeartbeats 2000000 in
theorem handlesNil_walk {A : Nat → Addr} (v : Value) (o : OpV22) (w : World) (hs : Sents 113 codeVars A w) (ho : Op22Arg w v o) :
    Calls Tryd.prog 6 #[v] w fun e w' => e = .returned (.bool true) ∧ Below w.heap.size w w' := by
  obtain ⟨kd, ⟨c, l, d⟩, hh⟩ := o
  obtain ⟨rfl, hp, hz⟩ := ho
  simp only at hp hz ⊢
  obtain ⟨W1, hW1⟩ : ∃ W1, w.alloc (.cells #[.int .i64 kd, .int .i64 c, .int .i64 l, .int .u32 (d : Nat), .int .i64 hh] 35) = W1 := ⟨_, rfl⟩
  obtain ⟨b, hb⟩ : ∃ b, w.heap.size = b := ⟨_, rfl⟩
  have K1 : Aside (Keeps Nowhere w W1) := ⟨by rw [← hW1]; exact (Keeps.refl _ _).alloc _⟩
  have C1 : Aside (Cells W1 b 35 [.int .i64 kd, .int .i64 c, .int .i64 l, .int .u32 (d : Nat), .int .i64 hh]) := ⟨by rw [← hW1, ← hb]; exact Cells.new w _ _⟩
  have S1 := Aside.mk (hs.later K1.it.bel)
  have WK := Aside.mk (wakes22 S1.it)
  have HP := Aside.mk hp
  have HZ := Aside.mk hz
  clear hs hp hz
  have CC : ∀ {W : World}, Aside (Keeps Nowhere W1 W) → W.cell? ⟨b, 1, none⟩ = some (.int .i64 c) ∧ W.cell? ⟨b, 2, none⟩ = some (.int .i64 l) ∧ W.cell? ⟨b, 3, none⟩ = some (.int .u32 (d : Nat)) ∧ W.cell? ⟨b, 4, none⟩ = some (.int .i64 hh) := fun {W} k => by
    have e := C1.it.later k.it (fun x => x)
    exact ⟨by rw [e.cell]; rfl, by rw [e.cell]; rfl, by rw [e.cell]; rfl, by rw [e.cell]; rfl⟩
  have CC := Aside.mk @CC
  go_enter Tryd.func6, Tryd.ntmps6
  go_upto_region 1 with fail
  clear hW1
  go_upto_region 4 with (go_at_call 8; refine WK.it.mono ?_; rintro e w2 ⟨rfl, K2⟩)
  have S2 := Aside.mk (S1.it.later K2.it.bel)
  have B := Aside.mk (bind_nil (x := ⟨c, l, d⟩) S2.it)
  obtain ⟨c1, c2, c3, c4⟩ := CC.it K2
  go_upto_region 5 with (go_at_call 14; refine B.it.mono ?_; rintro e w3 ⟨rfl, K3⟩)
  have K13 := Aside.mk (K2.it.trans K3.it)
  have S3 := Aside.mk (S2.it.later K3.it.bel)
  clear c1 c2 c3 c4 B WK
  obtain ⟨c1, c2, c3, c4⟩ := CC.it K13
  have F := Aside.mk (find_nil w3 HZ.it)
  go_upto_region 6 with (go_at_call 16; refine F.it.mono ?_; rintro e w4 ⟨rfl, K4⟩)
  have K4a := Aside.mk (K4.it.alloc (.cells #[.int .i64 0, .int .i64 0, .int .u32 0] 33))
  have K14 := Aside.mk (K13.it.trans K4a.it)
  have S4 := Aside.mk (S3.it.later K4a.it.bel)
  have P4 := Aside.mk (Cells.new w4 33 [.int .i64 0, .int .i64 0, .int .u32 0])
  obtain ⟨W4, hW4⟩ : ∃ W4, w4.alloc (.cells #[.int .i64 0, .int .i64 0, .int .u32 0] 33) = W4 := ⟨_, rfl⟩
  have e4 : w4.alloc (.cells [.int .i64 0, .int .i64 0, .int .u32 0].toArray 33) = W4 := hW4
  rw [e4] at P4
  rw [hW4] at K14 S4 ⊢
  clear e4 hW4 c1 c2 c3 c4 F K4a
  generalize w4.heap.size = pb at P4 ⊢
  obtain ⟨c1, c2, c3, c4⟩ := CC.it K14
  have O := Aside.mk (of_nil (x := ⟨c, l, d⟩) W4 HP.it)
  go_upto_region 7 with (go_at_call 13; refine O.it.mono ?_; rintro e w5 ⟨rfl, K5⟩)
  have K15 := Aside.mk (K14.it.trans K5.it)
  have S5 := Aside.mk (S4.it.later K5.it.bel)
  have P5 := Aside.mk (P4.it.later K5.it (fun x => x))
  clear c1 c2 c3 c4 O
  obtain ⟨c1, c2, c3, c4⟩ := CC.it K15
  have x0 : w5.cell? ⟨pb, 0, none⟩ = some (.int .i64 0) := by rw [P5.it.cell]; rfl
  have x1 : w5.cell? ⟨pb, 1, none⟩ = some (.int .i64 0) := by rw [P5.it.cell]; rfl
  have x2 : w5.cell? ⟨pb, 2, none⟩ = some (.int .u32 0) := by rw [P5.it.cell]; rfl
  have CD := Aside.mk (code_of S5.it (Coded.mk (A := A) 0 1 (by decide) (by decide) rfl))
  have D := Aside.mk (drop_nil w5 HZ.it)
  have pe : (binOp .eql 33 (.agg #[.int .i64 0, .int .i64 0, .int .u32 0]) (.agg #[.int .i64 0, .int .i64 0, .int .u32 0])).run Tryd.prog w5 = .ok (.bool true) w5 := pl_eql 0 0 0 w5
  go_wp2_with (first
    | (go_at_call 15; refine CD.it.mono ?_; rintro e w7 ⟨rfl, hw7⟩; subst hw7)
    | (go_at_call 12; refine D.it.mono ?_; rintro e w8 ⟨rfl, K8⟩; have K18 := Aside.mk (K15.it.trans K8.it); obtain ⟨d1, d2, d3, d4⟩ := CC.it K18; have ON := Aside.mk (on_nil w8 c l))
    | (go_at_call 18; refine ON.it.mono ?_; rintro e w9 ⟨rfl, K9⟩; have LN := Aside.mk (len_nil w9))
    | (go_at_call 17; refine LN.it.mono ?_; rintro e w10 ⟨rfl, K10⟩)
    | fail)
  go_ret
  exact ⟨rfl, ((((K1.it.trans K15.it).trans K8.it).trans K9.it).trans K10.it).bel⟩
end Go.Proofs.YtjloedcikcamkaaDoor
