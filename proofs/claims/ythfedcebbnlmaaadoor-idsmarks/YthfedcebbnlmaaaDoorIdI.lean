/-
  layer 14's laws: begin
-/
import Derived.Test.YthfedcebbnlmaaaDoorIdH
import Derived.Test.YthfedcebbnlmaaaDoorOpenI14
namespace Go.Proofs.YthfedcebbnlmaaaDoor
open Go.RowKit

section
variable {own own' : Nat → Nat} {w w' w0 : World} {A : Nat → Addr} {X : List (Nat × TypeId × List Value)}
theorem rNew_no (c : Bool) (n : Int) (w : World) (h : n < 0 ∨ 2147483647 < n) : Calls Tryd.prog 27 #[.bool c, .int .i64 n] w fun e w' => e = .returned (.tuple #[.agg #[.int .i64 0, .int .i64 0, .int .i64 0, .int .i64 0, .int .i64 0], .int .i64 2]) ∧ Aside (Keeps Nowhere w w') := by
  rcases h with h | h
  · go_enter Tryd.func27, Tryd.ntmps27
    go_wp2
    go_returns
    exact ⟨rfl, ⟨(Keeps.refl _ _).alloc _⟩⟩
  · have h0' : ¬ n < 0 := by omega
    go_enter Tryd.func27, Tryd.ntmps27
    go_wp2
    go_returns
    exact ⟨rfl, ⟨(Keeps.refl _ _).alloc _⟩⟩
theorem rNew_ok (c : Bool) (n f : Int) (w : World) (h0 : 0 ≤ n) (h1 : n ≤ 2147483647) (hf : f = 2 - pty c + 2 * n) : Calls Tryd.prog 27 #[.bool c, .int .i64 n] w fun e w' => e = .returned (.tuple #[.agg #[.int .i64 (2 - pty c), .int .i64 f, .int .i64 f, .int .i64 0, .int .i64 0], .int .i64 0]) ∧ Aside (Keeps Nowhere w w') := by
  have h0' : ¬ n < 0 := by omega
  have h1' : ¬ 2147483647 < n := by omega
  cases c
  · have hf' : 2 + 2 * n = f := hf.symm
    clear hf
    go_enter Tryd.func27, Tryd.ntmps27
    go_wp2
    go_returns
    exact ⟨rfl, ⟨(Keeps.refl _ _).alloc _⟩⟩
  · have hf' : 1 + 2 * n = f := hf.symm
    clear hf
    go_enter Tryd.func27, Tryd.ntmps27
    go_wp2
    go_returns
    exact ⟨rfl, ⟨(Keeps.refl _ _).alloc _⟩⟩
theorem five {b : Nat} {t : TypeId} {v0 v1 v2 v3 v4 : Value} (h : Cells w b t [v0, v1, v2, v3, v4]) : w.cell? ⟨b, 0, none⟩ = some v0 ∧ w.cell? ⟨b, 1, none⟩ = some v1 ∧ w.cell? ⟨b, 2, none⟩ = some v2 ∧ w.cell? ⟨b, 3, none⟩ = some v3 ∧ w.cell? ⟨b, 4, none⟩ = some v4 := ⟨h.cell 0, h.cell 1, h.cell 2, h.cell 3, h.cell 4⟩
theorem fiveF {b : Nat} {t : TypeId} {v0 v1 v2 v3 v4 : Value} (h : Cells w b t [v0, v1, v2, v3, v4]) : w.frozen? ⟨b, 0, none⟩ = false ∧ w.frozen? ⟨b, 1, none⟩ = false ∧ w.frozen? ⟨b, 2, none⟩ = false ∧ w.frozen? ⟨b, 3, none⟩ = false ∧ w.frozen? ⟨b, 4, none⟩ = false := ⟨h.frozen 0, h.frozen 1, h.frozen 2, h.frozen 3, h.frozen 4⟩
theorem keeps5 (w : World) (b : Nat) (v0 v1 v2 v3 v4 : Value) : Keeps (fun k => k = b) w (((((w.setCell ⟨b, 0, none⟩ v0).setCell ⟨b, 1, none⟩ v1).setCell ⟨b, 2, none⟩ v2).setCell ⟨b, 3, none⟩ v3).setCell ⟨b, 4, none⟩ v4) := by
  have k0 := (Keeps.refl (fun k => k = b) w).setCell ⟨b, 0, none⟩ v0 (fun _ => rfl)
  have k1 := k0.setCell ⟨b, 1, none⟩ v1 (fun _ => rfl)
  have k2 := k1.setCell ⟨b, 2, none⟩ v2 (fun _ => rfl)
  have k3 := k2.setCell ⟨b, 3, none⟩ v3 (fun _ => rfl)
  exact k3.setCell ⟨b, 4, none⟩ v4 (fun _ => rfl)
theorem IdW.put5 {L : List (Nat × Im)} {Y : List (Nat × TypeId × List Value)} {b : Nat} {t : TypeId} {u0 u1 u2 u3 u4 : Value} (h : Aside (IdW A w0 ((b, t, [u0, u1, u2, u3, u4]) :: Y) L own w)) (hX : ∀ x ∈ X, x ∈ Y ∧ x.2.1 ≠ t) (v0 v1 v2 v3 v4 : Value) : Aside (IdW A w0 ((b, t, [v0, v1, v2, v3, v4]) :: X) L own (((((w.setCell ⟨b, 0, none⟩ v0).setCell ⟨b, 1, none⟩ v1).setCell ⟨b, 2, none⟩ v2).setCell ⟨b, 3, none⟩ v3).setCell ⟨b, 4, none⟩ v4)) := by
  have hc := (h.it.ex _ (List.mem_cons_self ..)).1.1
  exact IdW.put h hX (keeps5 w b v0 v1 v2 v3 v4) (((((hc.setCell 0 v0).setCell 1 v1).setCell 2 v2).setCell 3 v3).setCell 4 v4)
theorem IdW.head {L : List (Nat × Im)} {b : Nat} {t : TypeId} {cs : List Value} (h : Aside (IdW A w0 ((b, t, cs) :: X) L own w)) : Cells w b t cs := (h.it.ex _ (List.mem_cons_self ..)).1.1
theorem IdW.none_ {L : List (Nat × Im)} (h : Aside (IdW A w0 X L own w)) : Aside (IdW A w0 X [] own w) := ⟨⟨fun j p x e => by simp at e, h.it.g, h.it.ex⟩⟩
theorem IdW.tail {L : List (Nat × Im)} {b : Nat} {t : TypeId} {cs : List Value} (h : Aside (IdW A w0 ((b, t, cs) :: X) L own w)) : Aside (IdW A w0 X L own w) := IdW.sub h (fun _ hx => List.mem_cons_of_mem _ hx)
/-- begin from its third region on -/
structure Mid14 (A : Nat → Addr) (w0 : World) (X : List (Nat × TypeId × List Value)) (c nn : Bool) (s : Int) (bw br bm : Nat) (f b : Int) (L : List (Nat × Im)) (own : Nat → Nat) (w : World) : Prop where
  it : Aside (IdW A w0 ((br, 37, [.int .i64 0, .int .i64 0, .int .i64 0, .int .i64 0, .int .i64 0]) :: (bm, 37, [.int .i64 f, .int .i64 b, .int .i64 b, .int .i64 0, .int .i64 0]) :: (bw, 34, [.bool c, .bool nn, .int .i64 s]) :: X) L own w)
  ne : bm ≠ br
section
variable {c nn : Bool} {s f b : Int} {bw br bm : Nat} {L : List (Nat × Im)}
theorem Mid14.q1 (h : Aside (Mid14 A w0 X c nn s bw br bm f b L own w)) : w.cell? ⟨bw, 1, none⟩ = some (.bool nn) := (h.it.it.it.ex _ (List.mem_cons_of_mem _ (List.mem_cons_of_mem _ (List.mem_cons_self ..)))).1.1.cell 1
theorem Mid14.m (h : Aside (Mid14 A w0 X c nn s bw br bm f b L own w)) : w.cell? ⟨bm, 0, none⟩ = some (.int .i64 f) ∧ w.cell? ⟨bm, 1, none⟩ = some (.int .i64 b) ∧ w.cell? ⟨bm, 2, none⟩ = some (.int .i64 b) ∧ w.cell? ⟨bm, 3, none⟩ = some (.int .i64 0) ∧ w.cell? ⟨bm, 4, none⟩ = some (.int .i64 0) := five (IdW.head (IdW.tail h.it.it))
theorem Mid14.m5 {v0 v1 v2 v3 v4 : Value} (h : Aside (Mid14 A w0 X c nn s bw br bm f b L own w)) : (fun w' : World => w'.cell? ⟨bm, 0, none⟩ = some (.int .i64 f) ∧ w'.cell? ⟨bm, 1, none⟩ = some (.int .i64 b) ∧ w'.cell? ⟨bm, 2, none⟩ = some (.int .i64 b) ∧ w'.cell? ⟨bm, 3, none⟩ = some (.int .i64 0) ∧ w'.cell? ⟨bm, 4, none⟩ = some (.int .i64 0)) (((((w.setCell ⟨br, 0, none⟩ v0).setCell ⟨br, 1, none⟩ v1).setCell ⟨br, 2, none⟩ v2).setCell ⟨br, 3, none⟩ v3).setCell ⟨br, 4, none⟩ v4) :=
  five ((IdW.head (IdW.tail h.it.it)).later (keeps5 w br v0 v1 v2 v3 v4) h.it.ne)
theorem Mid14.quiet (h : Aside (Mid14 A w0 X c nn s bw br bm f b L own w)) (k : Keeps Nowhere w w') : Aside (Mid14 A w0 X c nn s bw br bm f b L own w') := ⟨⟨IdW.quiet h.it.it k, h.it.ne⟩⟩
theorem Mid14.put (h : Aside (Mid14 A w0 X c nn s bw br bm f b L own w)) (hX : ∀ x ∈ X, x.2.1 ≠ 37) (v0 v1 v2 v3 v4 : Value) : Aside (IdW A w0 ((br, 37, [v0, v1, v2, v3, v4]) :: X) L own (((((w.setCell ⟨br, 0, none⟩ v0).setCell ⟨br, 1, none⟩ v1).setCell ⟨br, 2, none⟩ v2).setCell ⟨br, 3, none⟩ v3).setCell ⟨br, 4, none⟩ v4)) :=
  IdW.put5 h.it.it (fun x hx => ⟨List.mem_cons_of_mem _ (List.mem_cons_of_mem _ hx), hX x hx⟩) v0 v1 v2 v3 v4
theorem mid_code (h : Aside (Mid14 A w0 X c nn s bw br bm f b L own w)) {v : Value} {k : Int} (hv : Hid (Coded A v k)) : Calls Tryd.prog 9 #[v] w fun e w' => e = .returned (.int .i64 k) ∧ Aside (Mid14 A w0 X c nn s bw br bm f b L own w') := (code14 h.it.it hv).mono (by rintro e w' ⟨rfl, rfl⟩; exact ⟨rfl, h⟩)
end
set_option maxRecDepth 20000 in
set_option maxHeartbeats 2000000 in
theorem begin14 (h : Aside (IdW A w0 X [] own w)) (c nn : Bool) (s : Int) (hX : ∀ x ∈ X, x.2.1 ≠ 37) : Calls Tryd.prog 13 #[.agg #[.bool c, .bool nn, .int .i64 s]] w fun e w' => ∃ z own', e = .returned (.tuple #[zv z, .agg #[.int .i64 (zf z), .int .i64 (zb z), .int .i64 (zn z), .int .i64 (zM z), .int .i64 (zT z)], .bool true]) ∧ Aside (IdW A w0 X z.toList own' w') := by
  obtain ⟨w1, hw1⟩ : ∃ w1, w1 = (w.alloc (.cells #[.bool c, .bool nn, .int .i64 s] 34)).alloc (.cells #[.int .i64 0, .int .i64 0, .int .i64 0, .int .i64 0, .int .i64 0] 37) := ⟨_, rfl⟩
  obtain ⟨own1, P1⟩ : ∃ own1, Aside (IdW A w0 ((w.heap.size + 1, 37, [.int .i64 0, .int .i64 0, .int .i64 0, .int .i64 0, .int .i64 0]) :: (w.heap.size, 34, [.bool c, .bool nn, .int .i64 s]) :: X) [] own1 w1) := ⟨_, by
    rw [hw1]
    have := IdW.box (IdW.box h 34 [.bool c, .bool nn, .int .i64 s]) 37 [.int .i64 0, .int .i64 0, .int .i64 0, .int .i64 0, .int .i64 0]
    rw [World.size_alloc] at this
    exact this⟩
  obtain ⟨bw, hbw⟩ : ∃ bw, Aside (bw = w.heap.size) := ⟨_, ⟨rfl⟩⟩
  obtain ⟨br, hbr⟩ : ∃ br, Aside (br = w.heap.size + 1) := ⟨_, ⟨rfl⟩⟩
  have HX := Aside.mk hX
  clear hX
  go_enter Tryd.func13, Tryd.ntmps13
  go_upto_region 1 with fail
  rw [← hw1]
  rw [← hbr.it, ← hbw.it] at P1 ⊢
  clear hw1 hbw hbr h
  have q0 := (P1.it.ex _ (List.mem_cons_of_mem _ (List.mem_cons_self ..))).1.1.cell 0
  have q2 := (P1.it.ex _ (List.mem_cons_of_mem _ (List.mem_cons_self ..))).1.1.cell 2
  simp only [List.getElem?_cons_zero, List.getElem?_cons_succ] at q0 q2
  by_cases hr : s < 0 ∨ 2147483647 < s
  · have HR := Aside.mk hr
    clear hr
    go_upto_region 2 with (first | (go_at_call 8; refine (new14_no P1 c s (by have := HR.it; omega)).mono ?_; rintro e w2 ⟨rfl, P2⟩) | fail)
    clear q0 q2 P1
    have q0 := (P2.it.ex _ (List.mem_cons_of_mem _ (List.mem_cons_self ..))).1.1.cell 0
    have q2 := (P2.it.ex _ (List.mem_cons_of_mem _ (List.mem_cons_self ..))).1.1.cell 2
    simp only [List.getElem?_cons_zero, List.getElem?_cons_succ] at q0 q2
    go_upto_region 3 with (first | (go_at_call 27; refine (rNew_no c s _ (by have := HR.it; omega)).mono ?_; rintro e w3 ⟨rfl, k3⟩) | fail)
    have P3 := IdW.quiet P2 k3.it
    obtain ⟨w4, hw4⟩ : ∃ w4, w4 = w3.alloc (.cells #[.int .i64 0, .int .i64 0, .int .i64 0, .int .i64 0, .int .i64 0] 37) := ⟨_, rfl⟩
    obtain ⟨own4, P4⟩ : ∃ own4, Aside (Mid14 A w0 X c nn s bw br w3.heap.size 0 0 [] own4 w4) := ⟨_, by
      rw [hw4]
      exact ⟨⟨IdW.sub (IdW.box P3 37 [.int .i64 0, .int .i64 0, .int .i64 0, .int .i64 0, .int .i64 0]) (fun x hx => by simp only [List.mem_cons] at hx ⊢; rcases hx with h | h | h | h <;> simp [h]), fun e => Nat.lt_irrefl _ (e ▸ (IdW.head P3).lt)⟩⟩⟩
    rw [← hw4]
    obtain ⟨bm, hbm⟩ : ∃ bm, Aside (bm = w3.heap.size) := ⟨_, ⟨rfl⟩⟩
    rw [← hbm.it] at P4 ⊢
    clear hw4 hbm q0 q2 P2 P3 k3
    have q1 := Mid14.q1 P4
    cases nn
    · have P4d := Mid14.quiet P4 (Keeps.refl _ _).drew
      have HV : Hid (Coded A (.iface 82 (.pointer (some (A 1)))) 2) := hide (.mk 1 2 (by decide) (by decide) rfl)
      go_upto_region 5 with fail
      clear q1
      go_region_held3 (fun w' => w'.cell? ⟨bm, 0, none⟩ = some (.int .i64 (0)) ∧ w'.cell? ⟨bm, 1, none⟩ = some (.int .i64 (0)) ∧ w'.cell? ⟨bm, 2, none⟩ = some (.int .i64 (0)) ∧ w'.cell? ⟨bm, 3, none⟩ = some (.int .i64 0) ∧ w'.cell? ⟨bm, 4, none⟩ = some (.int .i64 0)) (first | with_reducible exact Mid14.m (c := c) (nn := false) (s := s) (bw := bw) (br := br) (A := A) (w0 := w0) (X := X) (L := []) (own := own4) (by with_reducible assumption) | with_reducible exact Mid14.m5 (c := c) (nn := false) (s := s) (bw := bw) (br := br) (A := A) (w0 := w0) (X := X) (L := []) (own := own4) (by with_reducible assumption)) (first
        | (go_at_call 9; with_reducible refine (mid_code (bm := bm) (c := c) (nn := false) (s := s) (bw := bw) (br := br) (A := A) (w0 := w0) (X := X) (L := []) (own := own4) (by with_reducible assumption) HV).mono ?_; rintro e w6 ⟨rfl, P6⟩; obtain ⟨r0, r1, r2, r3, r4⟩ := five (IdW.head P6.it.it); obtain ⟨f0, f1, f2, f3, f4⟩ := fiveF (IdW.head P6.it.it))
        | fail)
      all_goals
        have E := Mid14.put P6 HX.it (.int .i64 0) (.int .i64 0) (.int .i64 0) (.int .i64 0) (.int .i64 0)
        clear r0 r1 r2 r3 r4 f0 f1 f2 f3 f4
        generalize (((((w6.setCell ⟨br, 0, none⟩ (.int .i64 0)).setCell ⟨br, 1, none⟩ (.int .i64 0)).setCell ⟨br, 2, none⟩ (.int .i64 0)).setCell ⟨br, 3, none⟩ (.int .i64 0)).setCell ⟨br, 4, none⟩ (.int .i64 0)) = W5 at E ⊢
        obtain ⟨y0, y1, y2, y3, y4⟩ := five (IdW.head E)
        go_wp2
        refine bodyPost_ret (v := .tuple #[.pointer none, .agg #[.int .i64 0, .int .i64 0, .int .i64 0, .int .i64 0, .int .i64 0], .bool true]) (by simp [results, Tryd.results13, go_sem, y0, y1, y2, y3, y4]) rfl ?_
        exact ⟨none, own4, rfl, IdW.tail E⟩
    · obtain ⟨r0, r1, r2, r3, r4⟩ := five (IdW.head P4.it.it)
      obtain ⟨f0, f1, f2, f3, f4⟩ := fiveF (IdW.head P4.it.it)
      have E := IdW.none_ (Mid14.put P4 HX.it (.int .i64 0) (.int .i64 0) (.int .i64 0) (.int .i64 0) (.int .i64 0))
      go_wp2
      clear r0 r1 r2 r3 r4 f0 f1 f2 f3 f4
      generalize (((((w4.setCell ⟨br, 0, none⟩ (.int .i64 0)).setCell ⟨br, 1, none⟩ (.int .i64 0)).setCell ⟨br, 2, none⟩ (.int .i64 0)).setCell ⟨br, 3, none⟩ (.int .i64 0)).setCell ⟨br, 4, none⟩ (.int .i64 0)) = W5 at E ⊢
      obtain ⟨y0, y1, y2, y3, y4⟩ := five (IdW.head E)
      refine bodyPost_ret (v := .tuple #[.pointer none, .agg #[.int .i64 0, .int .i64 0, .int .i64 0, .int .i64 0, .int .i64 0], .bool true]) (by simp [results, Tryd.results13, go_sem, y0, y1, y2, y3, y4]) rfl ?_
      exact ⟨none, own4, rfl, IdW.tail E⟩
  · have h1 : 0 ≤ s := by omega
    have h2 : s ≤ 2147483647 := by omega
    clear hr
    go_upto_region 2 with (first | (go_at_call 8; refine (new14 P1 c s h1 h2).mono ?_; rintro e w2 ⟨pN, own2, rfl, P2⟩) | fail)
    clear q0 q2 P1
    obtain ⟨x0, hx0⟩ : ∃ x0, x0 = Im.new (pty c) s := ⟨_, rfl⟩
    obtain ⟨fo, hfo⟩ : ∃ fo, fo = 2 - pty c := ⟨_, rfl⟩
    obtain ⟨bo, hbo⟩ : ∃ bo, bo = 2 - pty c + 2 * s := ⟨_, rfl⟩
    have HX0 : Aside (2 - x0.o = fo ∧ x0.b = bo ∧ x0.n = bo ∧ x0.mark x0.o = 0 ∧ x0.mark (1 - x0.o) = 0) := by
      rw [hx0, hfo, hbo]
      refine ⟨rfl, rfl, rfl, ?_, ?_⟩ <;> unfold Im.mark Im.new <;> simp
    have RN := Aside.mk (fun w => rNew_ok c s bo w h1 h2 hbo)
    rw [← hfo] at RN
    rw [← hx0] at P2
    clear hx0 hfo hbo
    have q0 := (P2.it.ex _ (List.mem_cons_of_mem _ (List.mem_cons_self ..))).1.1.cell 0
    have q2 := (P2.it.ex _ (List.mem_cons_of_mem _ (List.mem_cons_self ..))).1.1.cell 2
    simp only [List.getElem?_cons_zero, List.getElem?_cons_succ] at q0 q2
    go_upto_region 3 with (first | (go_at_call 27; refine (RN.it _).mono ?_; rintro e w3 ⟨rfl, k3⟩) | fail)
    have P3 := IdW.quiet P2 k3.it
    obtain ⟨w4, hw4⟩ : ∃ w4, w4 = w3.alloc (.cells #[.int .i64 fo, .int .i64 bo, .int .i64 bo, .int .i64 0, .int .i64 0] 37) := ⟨_, rfl⟩
    obtain ⟨own4, P4⟩ : ∃ own4, Aside (Mid14 A w0 X c nn s bw br w3.heap.size fo bo [(pN, x0)] own4 w4) := ⟨_, by
      rw [hw4]
      exact ⟨⟨IdW.sub (IdW.box P3 37 [.int .i64 fo, .int .i64 bo, .int .i64 bo, .int .i64 0, .int .i64 0]) (fun x hx => by simp only [List.mem_cons] at hx ⊢; rcases hx with h | h | h | h <;> simp [h]), fun e => Nat.lt_irrefl _ (e ▸ (IdW.head P3).lt)⟩⟩⟩
    rw [← hw4]
    obtain ⟨bm, hbm⟩ : ∃ bm, Aside (bm = w3.heap.size) := ⟨_, ⟨rfl⟩⟩
    rw [← hbm.it] at P4 ⊢
    clear hw4 hbm q0 q2 P2 P3 k3 RN
    have q1 := Mid14.q1 P4
    cases nn
    · have P4d := Mid14.quiet P4 (Keeps.refl _ _).drew
      have HV : Hid (Coded A (.nilIface) 0) := hide (.none)
      go_upto_region 5 with fail
      clear q1
      go_region_held3 (fun w' => w'.cell? ⟨bm, 0, none⟩ = some (.int .i64 (fo)) ∧ w'.cell? ⟨bm, 1, none⟩ = some (.int .i64 (bo)) ∧ w'.cell? ⟨bm, 2, none⟩ = some (.int .i64 (bo)) ∧ w'.cell? ⟨bm, 3, none⟩ = some (.int .i64 0) ∧ w'.cell? ⟨bm, 4, none⟩ = some (.int .i64 0)) (first | with_reducible exact Mid14.m (c := c) (nn := false) (s := s) (bw := bw) (br := br) (A := A) (w0 := w0) (X := X) (L := [(pN, x0)]) (own := own4) (by with_reducible assumption) | with_reducible exact Mid14.m5 (c := c) (nn := false) (s := s) (bw := bw) (br := br) (A := A) (w0 := w0) (X := X) (L := [(pN, x0)]) (own := own4) (by with_reducible assumption)) (first
        | (go_at_call 9; with_reducible refine (mid_code (bm := bm) (c := c) (nn := false) (s := s) (bw := bw) (br := br) (A := A) (w0 := w0) (X := X) (L := [(pN, x0)]) (own := own4) (by with_reducible assumption) HV).mono ?_; rintro e w6 ⟨rfl, P6⟩; obtain ⟨r0, r1, r2, r3, r4⟩ := five (IdW.head P6.it.it); obtain ⟨f0, f1, f2, f3, f4⟩ := fiveF (IdW.head P6.it.it))
        | fail)
      all_goals
        have E := Mid14.put P6 HX.it (.int .i64 fo) (.int .i64 bo) (.int .i64 bo) (.int .i64 0) (.int .i64 0)
        clear r0 r1 r2 r3 r4 f0 f1 f2 f3 f4
        generalize (((((w6.setCell ⟨br, 0, none⟩ (.int .i64 fo)).setCell ⟨br, 1, none⟩ (.int .i64 bo)).setCell ⟨br, 2, none⟩ (.int .i64 bo)).setCell ⟨br, 3, none⟩ (.int .i64 0)).setCell ⟨br, 4, none⟩ (.int .i64 0)) = W5 at E ⊢
        obtain ⟨y0, y1, y2, y3, y4⟩ := five (IdW.head E)
        go_wp2
        refine bodyPost_ret (v := .tuple #[ptr pN, .agg #[.int .i64 fo, .int .i64 bo, .int .i64 bo, .int .i64 0, .int .i64 0], .bool true]) (by simp [results, Tryd.results13, go_sem, y0, y1, y2, y3, y4]) rfl ?_
        exact ⟨some (pN, x0), own4, by show _ = Ending.returned (.tuple #[ptr pN, .agg #[.int .i64 (2 - x0.o), .int .i64 x0.b, .int .i64 x0.n, .int .i64 (x0.mark x0.o), .int .i64 (x0.mark (1 - x0.o))], .bool true]); rw [HX0.it.1, HX0.it.2.1, HX0.it.2.2.1, HX0.it.2.2.2.1, HX0.it.2.2.2.2], IdW.tail E⟩
    · obtain ⟨r0, r1, r2, r3, r4⟩ := five (IdW.head P4.it.it)
      obtain ⟨f0, f1, f2, f3, f4⟩ := fiveF (IdW.head P4.it.it)
      have E := IdW.none_ (Mid14.put P4 HX.it (.int .i64 0) (.int .i64 0) (.int .i64 0) (.int .i64 0) (.int .i64 0))
      go_wp2
      clear r0 r1 r2 r3 r4 f0 f1 f2 f3 f4
      generalize (((((w4.setCell ⟨br, 0, none⟩ (.int .i64 0)).setCell ⟨br, 1, none⟩ (.int .i64 0)).setCell ⟨br, 2, none⟩ (.int .i64 0)).setCell ⟨br, 3, none⟩ (.int .i64 0)).setCell ⟨br, 4, none⟩ (.int .i64 0)) = W5 at E ⊢
      obtain ⟨y0, y1, y2, y3, y4⟩ := five (IdW.head E)
      refine bodyPost_ret (v := .tuple #[.pointer none, .agg #[.int .i64 0, .int .i64 0, .int .i64 0, .int .i64 0, .int .i64 0], .bool true]) (by simp [results, Tryd.results13, go_sem, y0, y1, y2, y3, y4]) rfl ?_
      exact ⟨none, own4, rfl, IdW.tail E⟩
end
end Go.Proofs.YthfedcebbnlmaaaDoor
