/-
  layer 19's laws: copied, wakes
-/
import Derived.Test.YtpmmjekaefemeaaDoorPpH
namespace Go.Proofs.YtpmmjekaefemeaaDoor
open Go.RowKit

section
variable {own own' own1 : Nat → Nat} {w w' w1 W : World} {r b : List Int} {v : Value}

theorem copied19 (hr : Rd w v b) (hn : b.length ≤ 140737488355328) : Calls Tryd.prog 12 #[v] w fun e w' => ∃ a c, e = .returned (.slice a b.length c) ∧ Aside (Nw w w' (.slice a b.length c) b) := by
  obtain ⟨a, c, rfl⟩ := hr.shape
  have k1 : Keeps Nowhere w (w.alloc (.cells #[] 5)) := (Keeps.refl _ _).alloc _
  have HR := Aside.mk (hr.keep k1 (fun _ _ x => x))
  have HN := Aside.mk hn
  obtain ⟨N, hN⟩ : ∃ N, b.length = N := ⟨_, rfl⟩
  have HNN := Aside.mk hN
  rw [hN] at HR ⊢
  clear hr hn k1 hN
  go_enter Tryd.func12, Tryd.ntmps12
  go_upto_region 1 with fail
  go_wp2_with (first
    | (at_builtin; refine wpList_appendB rfl (.tmp 3) (.tmp 4) rfl w.heap.size (.slice (some ⟨w.heap.size, 0, none⟩) 0 0) (.slice a N c) [] b (owns_empty w 5) HR.it (by have := HN.it; simp; omega) (by rw [World.size_alloc]; omega) rfl rfl ?_; intro v4 w4 o4 k4; rw [List.nil_append] at o4; obtain ⟨q4, c4, hv4⟩ := OwnB.shape o4.it; rw [HNN.it] at hv4; subst hv4)
    | fail)
  go_ret
  exact ⟨_, _, rfl, ⟨o4.it, Keeps.ofBelow ((((Keeps.refl Nowhere w).alloc (.cells #[] 5)).bel).trans k4.it)⟩⟩
theorem rd_new (w : World) (xs : List Int) (n : Nat) (hn : xs.length = n) : Rd (w.alloc (.cells (bv xs).toArray 5)) (.slice (some ⟨w.heap.size, 0, none⟩) n n) xs :=
  rd_mk hn (Nat.le_refl _) (fun k u hk => by rw [Nat.zero_add, (Cells.new w 5 (bv xs)).cell]; exact hk)
set_option maxHeartbeats 1000000 in
theorem wakes19 (w : World) : Calls Tryd.prog 8 #[] w fun e w' => e = .returned (.bool true) ∧ Aside (Keeps Nowhere w w') := by
  have G0 : Aside (Ground w.heap.size w (fun _ => 0) w) := ⟨⟨fun _ _ => rfl, Below.refl _ _, Nat.le_refl _⟩⟩
  have N := Aside.mk (new19 w (fun _ => 0) 1)
  go_enter Tryd.func8, Tryd.ntmps8
  go_upto_region 2 with (go_at_call 9; refine N.it.mono ?_; rintro e w1 ⟨p, own1, rfl, X1⟩)
  have G1 := Aside.mk (G0.it.sn X1.it.2 (fun x => x))
  have K1 : Aside (Keeps Nowhere w1 (w1.alloc (.cells #[.int .u8 1, .int .u8 2, .int .u8 3] 5))) := ⟨(Keeps.refl _ _).alloc _⟩
  have P1 := Aside.mk (put19 (X1.it.1.quiet K1.it) (rd_new w1 [1, 2, 3] 3 rfl) (by decide))
  clear N
  go_upto_region 5 with (first | (go_at_call 11; refine P1.it.mono ?_; clear P1; rintro e w2 ⟨own2, rfl, X2⟩) | fail)
  have G2 := Aside.mk ((G1.it.quiet K1.it).sn X2.it.2 (by decide))
  have M2 := Aside.mk (move19 X2.it.1 2 (by decide) 9)
  go_wp2_with (first
    | (go_at_call 16; refine (broken19 Z3.it).mono ?_; rintro e w6 ⟨rfl, hw6⟩; subst hw6)
    | (go_at_call 15; refine (passed19 Z3.it).mono ?_; rintro e w5 ⟨rfl, hw5⟩; subst hw5)
    | (go_at_call 13; refine (len19 X3.it.2.2.1 (by decide)).mono ?_; rintro e w4 ⟨rfl, K4⟩; have Z3 := Aside.mk (X3.it.2.2.1.quiet K4.it))
    | (go_at_call 14; refine M2.it.mono ?_; clear M2; rintro e w3 ⟨a3, l3, c3, own3, rfl, X3⟩; have sc := run_bytesStr (P := Tryd.prog) w3 26 9 5 _ _ Tryd.underlying26 Tryd.underlying5 Tryd.underlying9 X3.it.1.rd.holds; rw [show strOf (([] ++ [1, 2, 3] : List Int).take (2 : Int).toNat) = ⟨#[1, 2]⟩ from by kernel_rfl] at sc)
    | fail)
  go_ret
  refine ⟨rfl, ⟨Keeps.ofBelow ?_⟩⟩
  exact ((G2.it.sn X3.it.2.2.2 (by decide)).quiet K4.it).bel
end
end Go.Proofs.YtpmmjekaefemeaaDoor
