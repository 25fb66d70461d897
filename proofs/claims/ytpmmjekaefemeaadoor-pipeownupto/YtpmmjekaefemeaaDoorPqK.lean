/-
  culvertlaw19.rest: what the document's pipe still holds
-/
import Derived.Test.YtpmmjekaefemeaaDoorPqJ
namespace Go.Proofs.YtpmmjekaefemeaaDoor
open Go.RowKit

section
variable {own own' : Nat → Nat} {w w' W : World} {ALL : List Int} {G : Nat}

set_option maxHeartbeats 2000000 in
theorem rest19 (v : Value) (hv : Rd w v ALL) (hG : G ≤ ALL.length) (hm : ALL.length ≤ 2199023255551) (cut : Bool) :
    Calls Tryd.prog 23 #[dz v G cut] w fun e w' => ∃ a c l, e = .returned (.slice a l c) ∧ Aside (Nw w w' (.slice a l c) ((und ALL G cut).take 1073741824)) := by
  obtain ⟨va, vc, rfl⟩ := hv.shape
  have B0 := Cells.new w 28 [.slice va ALL.length vc, .int .i64 G, .bool cut]
  have d0 := B0.cell 0
  have d1 := B0.cell 1
  have d2 := B0.cell 2
  simp only [List.getElem?_cons_zero, List.getElem?_cons_succ] at d0 d1 d2
  clear B0
  have k1 : Keeps Nowhere w (w.alloc (dzc (.slice va ALL.length vc) G cut)) := (Keeps.refl _ _).alloc _
  have DM := Aside.mk (dmove (w := w.alloc (dzc (.slice va ALL.length vc) G cut)) _ (hv.keep k1 (fun _ _ x => x)) hG hm cut 1073741824)
  have K1 := Aside.mk k1
  obtain ⟨gg, hgg⟩ : ∃ gg : Nat, G + ((und ALL G cut).take (1073741824 : Int).toNat).length = gg := ⟨_, rfl⟩
  rw [hgg] at DM
  obtain ⟨N, hN⟩ : ∃ N, ALL.length = N := ⟨_, rfl⟩
  rw [hN] at d0 d1 d2 DM K1 ⊢
  clear hgg k1 hN hv hG hm
  go_enter Tryd.func23, Tryd.ntmps23
  go_upto_region 1 with fail
  go_upto_region 2 with (go_at_call 21; refine DM.it.mono ?_; clear DM; rintro e w2 ⟨a, c, l, rfl, X2⟩; have B2 := Cells.new w2 28 [.slice none 0 0, .int .i64 0, .bool false]; have B3 := Aside.mk B2; have e0 := B2.cell 0; have e1 := B2.cell 1; have e2 := B2.cell 2; simp only [List.getElem?_cons_zero, List.getElem?_cons_succ] at e0 e1 e2; have f0 := B2.frozen 0; have f1 := B2.frozen 1; have f2 := B2.frozen 2; clear B2)
  go_wp2_with fail
  go_ret
  have kF : Keeps Nowhere w2 (w2.alloc (dzc (.slice va N vc) gg cut)) := (Keeps.refl _ _).alloc _
  exact ⟨_, _, _, rfl, ⟨OwnB.mono (owns_later X2.it.row kF (fun _ _ x => x)) (by have := K1.it.size; exact this), K1.it.trans (X2.it.k.trans kF)⟩⟩
end
end Go.Proofs.YtpmmjekaefemeaaDoor
