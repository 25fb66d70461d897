/-
  package lane: a nil lane's Withdraw, Forget, Clear
-/
import Derived.Test.YtnohcbdnhpaafaaDoorLnW
import Derived.Test.YtnohcbdnhpaafaaDoorLnC2
namespace Go.Proofs.YtnohcbdnhpaafaaDoor
open Go.RowKit

variable {A : Nat → Addr} {w w' w0 : World}

theorem fremove_nil (fn : Fn) (b c : Array Value) (w : World) : Calls Tryd.prog 73 #[.pointer none, .func fn b c] w fun e w' => e = .returned (.int .i64 0) ∧ w' = w := by
  have H := hide (Fticket.held_nil w)
  have nn := Fticket.which_some w fn b c
  go_enter Tryd.func73, Tryd.ntmps73
  go_wp2_with (go_at_call 76; refine H.out.mono ?_; rintro e w1 ⟨rfl, rfl⟩)
  go_loopw [6, 15] (fun n i wr => n = .int .i64 0 ∧ i = .int .i64 0 ∧ wr = w1) (fun _ _ _ => 0)
  case atStart => exact ⟨rfl, rfl, rfl⟩
  case round =>
    obtain ⟨rfl, rfl, rfl⟩ := hrel
    go_wp2
    go_ret
    exact ⟨rfl, rfl⟩
theorem remove_nilL (fn : Fn) (b c : Array Value) (w : World) : Calls Tryd.prog 61 #[.pointer none, .func fn b c] w fun e w' => e = .returned (.int .i64 0) ∧ Keeps Nowhere w w' := by
  obtain ⟨W0, hW0⟩ : ∃ W0, W0 = (w.alloc (.cells #[.pointer none] 63)).alloc (.cells #[.func fn b c] 117) := ⟨_, rfl⟩
  have K0 : Aside (Keeps Nowhere w W0) := ⟨by rw [hW0]; exact ((Keeps.refl _ _).alloc _).alloc _⟩
  have C0 : Cells W0 w.heap.size 63 [.pointer none] := by rw [hW0]; exact (Cells.new w _ _).later (S := Nowhere) ((Keeps.refl _ _).alloc _) (fun x => x)
  have l0 : W0.cell? ⟨w.heap.size, 0, none⟩ = some (.pointer none) := by rw [C0.cell]; rfl
  have QU := Aside.mk (queue_nil W0)
  have RM := Aside.mk (fremove_nil (.func 74) #[] #[ptr (w.heap.size + 1), ptr w.heap.size] W0)
  clear C0
  go_enter Tryd.func61, Tryd.ntmps61
  go_upto_region 1 with fail
  rw [← hW0]
  clear hW0
  go_wp2_with (first | (go_at_call 53; refine QU.it.mono ?_; rintro e w1 ⟨rfl, hw1⟩; subst hw1) | (go_at_call 73; refine RM.it.mono ?_; rintro e w2 ⟨rfl, hw2⟩; subst hw2) | fail)
  go_ret
  exact ⟨rfl, K0.it⟩
theorem forget_nil (w : World) (s : Nat) : Calls Tryd.prog 42 #[.pointer none, .int .u32 s] w fun e w' => e = .returned (.int .i64 0) ∧ Keeps Nowhere w w' := by
  have RM := Aside.mk (remove_nilL (.func 62) #[] #[ptr w.heap.size] (w.alloc (.cells #[.int .u32 s] 27)))
  go_enter Tryd.func42, Tryd.ntmps42
  go_wp2_with (first | (go_at_call 61; refine RM.it.mono ?_; rintro e w2 ⟨rfl, k2⟩) | fail)
  go_ret
  exact ⟨rfl, ((Keeps.refl _ _).alloc _).trans k2⟩
theorem clear_nil (w : World) : Calls Tryd.prog 44 #[.pointer none] w fun e w' => e = .returned (.int .i64 0) ∧ Keeps Nowhere w w' := by
  have RM := Aside.mk (remove_nilL (.func 65) #[] #[] w)
  go_enter Tryd.func44, Tryd.ntmps44
  go_wp2_with (first | (go_at_call 61; refine RM.it.mono ?_; rintro e w2 ⟨rfl, k2⟩) | fail)
  go_ret
  exact ⟨rfl, k2⟩
theorem withdraw_nil (w : World) (kind : Int) (s : Nat) : Calls Tryd.prog 43 #[.pointer none, .int .i64 kind, .int .u32 s] w fun e w' => e = .returned (.bool false) ∧ Keeps Nowhere w w' := by
  obtain ⟨W0, hW0⟩ : ∃ W0, W0 = (w.alloc (.cells #[.int .i64 kind] 26)).alloc (.cells #[.int .u32 s] 27) := ⟨_, rfl⟩
  have k0 : Aside (Keeps Nowhere w W0) := ⟨by rw [hW0]; exact ((Keeps.refl _ _).alloc _).alloc _⟩
  have C1 : Cells W0 w.heap.size 26 [.int .i64 kind] := by rw [hW0]; exact (Cells.new w _ _).later (S := Nowhere) ((Keeps.refl _ _).alloc _) (fun x => x)
  have C2 : Cells W0 (w.heap.size + 1) 27 [.int .u32 s] := by
    have c2 := Cells.new (w.alloc (.cells #[.int .i64 kind] 26)) 27 [.int .u32 s]
    rw [World.size_alloc] at c2
    rw [hW0]; exact c2
  have d1 : W0.cell? ⟨w.heap.size, 0, none⟩ = some (.int .i64 kind) := by rw [C1.cell]; rfl
  have d2 : W0.cell? ⟨w.heap.size + 1, 0, none⟩ = some (.int .u32 s) := by rw [C2.cell]; rfl
  have MH := Aside.mk (mayHold_nil W0 kind s)
  clear C1 C2
  go_enter Tryd.func43, Tryd.ntmps43
  go_upto_region 1 with fail
  rw [← hW0]
  clear hW0
  go_wp2_with (first | (go_at_call 63; refine MH.it.mono ?_; rintro e w2 ⟨rfl, e2⟩; subst e2) | fail)
  go_ret
  exact ⟨rfl, k0.it⟩
end Go.Proofs.YtnohcbdnhpaafaaDoor
