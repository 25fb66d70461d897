/-
  StatesPlays, StatesByStep, walked.
-/
import Derived.Test.YtbinopfcelebbaaDoorStC
import Derived.Test.YtbinopfcelebbaaDoorOpenI
namespace Go.Proofs.YtbinopfcelebbaaDoor
open Go.RowKit

section
variable {w w' : World} {A : Nat → Addr}
theorem wakes_p (h : Aside (St9 A w)) : Calls Tryd.prog 9 #[] w fun e w' => e = .returned (.bool true) ∧ Aside (Keeps Nowhere w w') ∧ Aside (St9 A w') :=
  (wakes9 h.it).mono (by rintro e w' ⟨rfl, k⟩; exact ⟨rfl, k, ⟨h.it.quiet k.it⟩⟩)
/-- events, then Play: what the numbers say -/
theorem events_p {v : Value} {zs : List Int} (h : Aside (St9 A w)) (hz : Aside (RdI w v zs)) (h8 : Aside (zs.length * 8 ≤ 140737488351232)) : Calls Tryd.prog 13 #[v] w fun x w' => ∃ q l c, x = .returned (.slice q l c) ∧ Aside (RdI w' (.slice q l c) zs) ∧ Aside (Keeps Nowhere w w') ∧ Aside (St9 A w') := by
  refine (events_any v zs hz.it h8.it).mono ?_
  rintro x w' ⟨q, l, c, rfl, O, B⟩
  have k : Keeps Nowhere w w' := Keeps.ofBelow B.it
  exact ⟨q, l, c, rfl, ⟨owns_rdI O.it hz.it.bounds⟩, ⟨k⟩, ⟨h.it.quiet k⟩⟩
theorem play_p {v : Value} {zs : List Int} (h : Aside (St9 A w)) (hz : Aside (RdI w v zs)) : Calls Tryd.prog 12 #[v] w fun x w' => ∃ u, x = .returned (.tuple #[.int .i64 (plS 0 zs), .int .i64 (plN 0 zs), u]) ∧ Hid (Coded A u (plE 0 zs)) ∧ Aside (Keeps Nowhere w w') ∧ Aside (St9 A w') := by
  refine (play_any v zs hz.it h.it).mono ?_
  rintro x w' ⟨u, rfl, hu, m, rfl⟩
  exact ⟨u, rfl, hu, ⟨(Keeps.refl _ _).drewN m⟩, ⟨h.it.drewN m⟩⟩
theorem code_p {u : Value} {k : Int} (h : Aside (St9 A w)) (hu : Hid (Coded A u k)) : Calls Tryd.prog 15 #[u] w fun e w' => e = .returned (.int .i64 k) ∧ w' = w := code_of h.it.s hu.out
theorem statesPlays_walk {A : Nat → Addr} (v : Value) (zs : List Int) (w : World) (hs : St9 A w) (hz : IntsIArg w v zs) : Calls Tryd.prog 5 #[v] w fun e w' => e = .returned (.bool true) ∧ Below w.heap.size w w' := by
  have H := Aside.mk hs
  have HZ := Aside.mk hz.1
  have H8 := Aside.mk hz.2
  clear hs hz
  go_enter Tryd.func5, Tryd.ntmps5
  go_upto_region 3 with (first | (go_at_call 9; refine (wakes_p H).mono ?_; rintro x w1 ⟨rfl, K1, H1⟩) | fail)
  have HZ1 := Aside.mk (HZ.it.quiet K1.it)
  clear H
  go_upto_region 4 with (first | (go_at_call 13; refine (events_p H1 HZ1 H8).mono ?_; rintro x w2 ⟨q, l, c, rfl, R2, K2, H2⟩) | (go_at_call 12; refine (play_p H2 R2).mono ?_; rintro x w3 ⟨u, rfl, hu, K3, H3⟩) | fail)
  have HZ3 := Aside.mk ((HZ1.it.quiet K2.it).quiet K3.it)
  have KK := Aside.mk ((K1.it.trans K2.it).trans K3.it)
  have C := Aside.mk (rplay_any v zs w3 HZ3.it)
  clear HZ HZ1 R2 H1 H2 K1 K2 K3
  generalize plS 0 zs = s at C ⊢
  generalize plN 0 zs = n at C ⊢
  generalize plE 0 zs = f at C hu ⊢
  go_upto_region 5 with (first | (go_at_call 14; refine C.it.mono ?_; rintro x w4 ⟨rfl, rfl⟩) | fail)
  go_wp2_with (first | (go_at_call 15; refine (code_p H3 hu).mono ?_; rintro x w4 ⟨rfl, rfl⟩) | fail)
  go_ret
  exact ⟨by simp, KK.it.bel⟩
end
end Go.Proofs.YtbinopfcelebbaaDoor
