/-
  law 12: wakes
-/
import Derived.Test.YtekokdfajbajoaaDoorRbLstring
namespace Go.Proofs.YtekokdfajbajoaaDoor
open Go.RowKit

variable {w w' : World}

/-- a robin of strings above the ground -/
def Wk (w0 w : World) (r : Nat) (ks : List (List UInt8)) : Prop := ∃ own, Ground w0.heap.size w0 own w ∧ Rbstring.RbO own 1 w r ks
theorem Wk.step {w0 : World} {own : Nat → Nat} {r : Nat} {ks : List (List UInt8)} (hg : Ground w0.heap.size w0 own w) (h : Keeps (fun c => own c = 1) w w' ∧ Rbstring.RbO (give own w.heap.size 1) 1 w' r ks) : Wk w0 w' r ks :=
  ⟨_, hg.step h.1 (by decide) 1, h.2⟩
theorem kyS (n : UInt8) : Rbstring.Ky [n] := by unfold Rbstring.Ky maxLen; simp
set_option maxHeartbeats 2000000 in
set_option maxRecDepth 20000 in
theorem wakes12 (w : World) : Calls Tryd.prog 4 #[] w fun e w' => e = .returned (.bool true) ∧ Aside (Below w.heap.size w w') := by
  have NEW := Aside.mk (Rbstring.newO (fun _ => 0) 1 w)
  have ADD : ∀ (w1 : World) (r : Nat) (ks ks' : List (List UInt8)) (n : UInt8), Wk w w1 r ks → ks.length < 10 → ks' = addL ks [n] → Calls Tryd.prog 16 #[ptr r, .string ⟨#[n]⟩] w1 fun e w' => e = .returned (.bool (addT ks [n])) ∧ Aside (Wk w w' r ks') := by
    intro w1 r ks ks' n ⟨own, hg, h⟩ hl hk
    refine (Rbstring.addO h (kyS n) (by unfold maxLen; omega)).mono ?_
    rintro e w' ⟨rfl, H⟩
    subst hk
    exact ⟨rfl, ⟨Wk.step hg H.it⟩⟩
  have AD := Aside.mk ADD
  clear ADD
  go_enter Tryd.func4, Tryd.ntmps4
  go_upto_region 2 with (first | (go_at_call 15; refine NEW.it.mono ?_; rintro e w1 ⟨r, rfl, R1⟩) | fail)
  clear NEW
  have A1 : Aside (Wk w w1 r []) := ⟨⟨_, (⟨fun _ _ => rfl, Below.refl _ _, Nat.le_refl _⟩ : Ground w.heap.size w (fun _ => 0) w).step (R1.it.1.any (S := fun _ => 0 = 1)) (by decide) 1, R1.it.2⟩⟩
  clear R1
  go_upto_if 21 with (first
    | (go_at_call 16; have _u := A3; clear _u; refine (AD.it _ _ _ [[97], [98]] 97 A3.it (by decide) rfl).mono ?_; clear A3; rintro e w4 ⟨rfl, A4⟩)
    | (go_at_call 16; have _u := A2; clear _u; refine (AD.it _ _ _ [[97], [98]] 98 A2.it (by decide) rfl).mono ?_; clear A2; rintro e w3 ⟨rfl, A3⟩)
    | (go_at_call 16; have _u := A1; clear _u; refine (AD.it _ _ _ [[97]] 97 A1.it (by decide) rfl).mono ?_; clear A1; rintro e w2 ⟨rfl, A2⟩)
    | fail)
  clear AD
  have NX : Aside (Calls Tryd.prog 17 #[ptr r] w4 fun e w' => e = .returned (.tuple #[.string ⟨#[97]⟩, .bool true]) ∧ Aside (Wk w w' r [[98], [97]])) := by
    obtain ⟨own, hg, h⟩ := A4.it
    refine ⟨(Rbstring.nextO h).mono ?_⟩
    rintro e w' ⟨rfl, H⟩
    exact ⟨rfl, ⟨Wk.step hg H.it⟩⟩
  go_upto_region 5 with (first | (go_at_call 17; refine NX.it.mono ?_; clear NX; rintro e w5 ⟨rfl, A5⟩) | fail)
  have LS : Aside (Calls Tryd.prog 18 #[ptr r] w5 fun e w' => ∃ g, e = .returned (.slice (some ⟨g, 0, none⟩) 2 2) ∧ Aside (Wk w w' r [[98], [97]] ∧ Cells w' g 9 [.string ⟨#[98]⟩, .string ⟨#[97]⟩])) := by
    obtain ⟨own, hg, h⟩ := A5.it
    refine ⟨(Rbstring.listO own 2 h (by decide)).mono ?_⟩
    rintro e w' ⟨v, rfl, H, _⟩
    obtain ⟨k, ⟨h1, _⟩⟩ := H.it
    rcases h1 with ⟨_, x⟩ | ⟨g, rfl, hc⟩
    · cases x
    · exact ⟨g, rfl, ⟨⟨own, hg.quiet k, h.quiet k⟩, hc⟩⟩
  go_upto_region 6 with (first | (go_at_call 18; refine LS.it.mono ?_; clear LS; rintro e w6 ⟨g, rfl, A6⟩) | fail)
  obtain ⟨⟨own, hg, h⟩, hc⟩ := A6.it
  have c0 : w6.cell? ⟨g, 0, none⟩ = some (.string ⟨#[98]⟩) := hc.cell 0
  have c1 : w6.cell? ⟨g, 1, none⟩ = some (.string ⟨#[97]⟩) := hc.cell 1
  have LN := Aside.mk (Rbstring.lenO h)
  have HS := Aside.mk (Rbstring.hasO (k := [98]) h (kyS 98))
  have G := Aside.mk hg.bel
  clear A6 hg h hc A4 A5
  go_wp2_with (first
    | (go_at_call 19; refine LN.it.mono ?_; rintro e w7 ⟨rfl, rfl⟩)
    | (go_at_call 20; refine HS.it.mono ?_; rintro e w8 ⟨rfl, rfl⟩)
    | fail)
  go_ret
  exact ⟨rfl, ⟨G.it⟩⟩
end Go.Proofs.YtekokdfajbajoaaDoor
