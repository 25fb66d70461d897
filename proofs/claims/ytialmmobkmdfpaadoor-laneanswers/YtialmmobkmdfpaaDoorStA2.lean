/-
  culvertlaw11.step on a nil lane
-/
import Derived.Test.YtialmmobkmdfpaaDoorStA1
namespace Go.Proofs.YtialmmobkmdfpaaDoor
open Go.RowKit

variable {A : Nat → Addr} {w w' w0 : World} {own own' : Nat → Nat} {vm : Value}

theorem RdO9.quiet {L : List Tk} (h : RdO9 own w vm L) (k : Keeps Nowhere w w') : RdO9 own w' vm L := h.sn (I := fun _ => False) (Sn.same k) (fun x => x)
theorem fnd_nil (k : Int) (s : Nat) : fndI [] k s = -1 := rfl
set_option maxRecDepth 20000 in
set_option maxHeartbeats 4000000 in
theorem stepN (h : Gl A w0 own w) (hr : RdO9 own w vm []) (o : OpV11) (ho : o.t.Wide) :
    Calls Tryd.prog 10 #[.pointer none, vm, opv o] w fun e w' => ∃ vm' own', e = .returned (.tuple #[vm', .bool true]) ∧ Aside (Gl A w0 own' w' ∧ RdO9 own' w' vm' []) := by
  obtain ⟨W0, hW0⟩ : ∃ W0, W0 = w.alloc (.cells #[.int .i64 o.kind, .int .i64 o.t.k, .int .u32 o.t.s, .int .u32 o.t.v] 32) := ⟨_, rfl⟩
  have k0 : Keeps Nowhere w W0 := by rw [hW0]; exact (Keeps.refl _ _).alloc _
  have C0 : Aside (Cells W0 w.heap.size 32 o.cells) := ⟨by rw [hW0]; exact Cells.new _ _ _⟩
  have G0 := Aside.mk (h.quiet k0)
  have R0 := Aside.mk (hr.quiet k0)
  obtain ⟨qa, ca, hvm, hla, hma, _⟩ := hr.1.at
  subst hvm
  simp only [List.length_nil] at R0
  have CL : Aside (∀ W, Keeps Nowhere W0 W → W.cell? ⟨w.heap.size, 0, none⟩ = some (.int .i64 o.kind) ∧ W.cell? ⟨w.heap.size, 1, none⟩ = some (.int .i64 o.t.k) ∧ W.cell? ⟨w.heap.size, 2, none⟩ = some (.int .u32 o.t.s) ∧ W.cell? ⟨w.heap.size, 3, none⟩ = some (.int .u32 o.t.v)) := ⟨fun W k => by
    have c := C0.it.later k (fun x => x)
    exact ⟨by rw [c.cell]; rfl, by rw [c.cell]; rfl, by rw [c.cell]; rfl, by rw [c.cell]; rfl⟩⟩
  obtain ⟨d0, d1, d2, d3⟩ := CL.it W0 (Keeps.refl _ _)
  have HO := Aside.mk ho
  simp only [List.length_nil]
  clear h hr k0 ho hma hla
  go_enter Tryd.func10, Tryd.ntmps10
  go_upto_region 1 with fail
  rw [← hW0]
  clear hW0
  generalize w.heap.size = b at C0 CL d0 d1 d2 d3 ⊢
  by_cases k0 : o.kind = 0
  · rw [k0] at d0
    have PR := Aside.mk (putR (w := W0) _ [] o.t R0.it.1 HO.it List.Pairwise.nil (fun _ h => by cases h) (by decide))
    clear k0
    go_upto_region 4 with (first | (go_at_call 27; refine PR.it.mono ?_; rintro e w1 ⟨v1, rfl, hr1, k1⟩) | fail)
    obtain ⟨e0, e1, e2, e3⟩ := CL.it w1 k1.it
    have PN := Aside.mk (put_nil (w := w1) o.t (G0.it.quiet k1.it).st.s)
    clear d0 d1 d2 d3 e0
    go_wp2_with (first
      | (go_at_call 16; refine PN.it.mono ?_; rintro e w2 ⟨x2, rfl, hx2, k2⟩)
      | (go_at_call 23; refine (code_of ((G0.it.quiet k1.it).quiet k2).st.s hx2).mono ?_; rintro e w3 ⟨rfl, rfl⟩)
      | fail)
    go_ret2
    exact ⟨_, own, rfl, ⟨(G0.it.quiet k1.it).quiet k2, (R0.it.quiet k1.it).quiet k2⟩⟩
  · have k0' : (o.kind == 0) = false := by simpa using k0
    by_cases k1 : o.kind = 1
    · rw [k1] at d0
      have NX := Aside.mk (next_nil W0)
      clear k0 k0' k1
      go_upto_region 9 with (first | (go_at_call 17; refine NX.it.mono ?_; rintro e w1 ⟨rfl, k1⟩) | fail)
      obtain ⟨W2, hW2⟩ : ∃ W2, W2 = w1.alloc (tbox 0 0 0) := ⟨_, rfl⟩
      rw [show w1.alloc (.cells #[.int .i64 0, .int .u32 0, .int .u32 0] 30) = W2 from hW2.symm]
      have K2 : Aside (Keeps Nowhere W0 W2) := ⟨by rw [hW2]; exact k1.alloc _⟩
      have G2 : Cells W2 w1.heap.size 30 [.int .i64 0, .int .u32 0, .int .u32 0] := by rw [hW2]; exact Cells.new _ _ _
      have g0 : W2.cell? ⟨w1.heap.size, 0, none⟩ = some (.int .i64 0) := by rw [G2.cell]; rfl
      have g1 : W2.cell? ⟨w1.heap.size, 1, none⟩ = some (.int .u32 0) := by rw [G2.cell]; rfl
      have g2 : W2.cell? ⟨w1.heap.size, 2, none⟩ = some (.int .u32 0) := by rw [G2.cell]; rfl
      have EQ := fun w => tk_eql w 0 0 0 0 0 0
      simp only [and_self, decide_true] at EQ
      clear hW2 G2 NX k1 d0 d1 d2 d3
      go_upto_region 10 with fail
      go_quiet (fail)
      go_wp2
      go_ret2
      have k3 : Keeps Nowhere W0 (W2.drewN nq) := K2.it.drewN nq
      exact ⟨_, own, rfl, ⟨G0.it.quiet k3, R0.it.quiet k3⟩⟩
    · have k1' : (o.kind == 1) = false := by simpa using k1
      by_cases k2 : o.kind = 2
      · rw [k2] at d0
        have FR := Aside.mk (findR (w := W0) _ [] o.t.k o.t.s R0.it.1)
        rw [fnd_nil] at FR
        clear k0 k0' k1 k1' k2
        go_upto_region 14 with (first | (go_at_call 29; refine FR.it.mono ?_; rintro e w1 ⟨rfl, k1⟩) | fail)
        obtain ⟨e0, e1, e2, e3⟩ := CL.it w1 k1.it
        have WN := Aside.mk (withdraw_nil w1 o.t.k o.t.s)
        clear d0 d1 d2 d3 e0
        go_wp2_with (first | (go_at_call 18; refine WN.it.mono ?_; rintro e w2 ⟨rfl, k2⟩) | fail)
        go_ret2
        exact ⟨_, own, rfl, ⟨(G0.it.quiet k1.it).quiet k2, (R0.it.quiet k1.it).quiet k2⟩⟩
      · have k2' : (o.kind == 2) = false := by simpa using k2
        by_cases k3 : o.kind = 3
        · rw [k3] at d0
          have FR := Aside.mk (forgetR (w := W0) _ [] o.t.s R0.it.1 (by decide))
          simp only [List.length_nil, List.countP_nil, List.filter_nil] at FR
          clear k0 k0' k1 k1' k2 k2' k3
          go_upto_region 21 with (first | (go_at_call 30; refine FR.it.mono ?_; rintro e w1 ⟨v1, rfl, o1, k1⟩) | fail)
          obtain ⟨e0, e1, e2, e3⟩ := CL.it w1 k1.it
          have WN := Aside.mk (forget_nil w1 o.t.s)
          clear d0 d1 d2 d3 e0
          go_wp2_with (first | (go_at_call 19; refine WN.it.mono ?_; rintro e w2 ⟨rfl, k2⟩) | fail)
          go_ret2
          have s1 : Sn (fun _ => False) own W0 (give own W0.heap.size 9) w1 := Sn.quiet k1.it 9
          have r1 : RdO9 (give own W0.heap.size 9) w1 v1 [] := ⟨owns_readsK o1.it, fun k hk => ⟨give_new (owns_base o1.it k hk), owns_lt o1.it k hk⟩⟩
          exact ⟨v1, _, rfl, ⟨(G0.it.sn s1 (fun x => x)).quiet k2, r1.quiet k2⟩⟩
        · have k3' : (o.kind == 3) = false := by simpa using k3
          by_cases k4 : o.kind = 4
          · rw [k4] at d0
            have CN := Aside.mk (clear_nil W0)
            clear k0 k0' k1 k1' k2 k2' k3 k3' k4
            go_wp2_with (first | (go_at_call 20; refine CN.it.mono ?_; rintro e w2 ⟨rfl, k2⟩) | fail)
            go_ret2
            exact ⟨.slice none 0 0, own, rfl, ⟨G0.it.quiet k2, rdO9_nil _ _⟩⟩
          · have k4' : (o.kind == 4) = false := by simpa using k4
            clear k0 k1 k2 k3 k4
            have CX : Aside (∀ W, Aside (Keeps Nowhere W0 W) → Calls Tryd.prog 14 #[.pointer none, .int .i64 o.t.k] W fun e w' => e = .returned (.int .i64 0) ∧ Aside (Keeps Nowhere W0 w')) := ⟨fun W X => by
              refine (count_nil W o.t.k).mono ?_
              rintro e w' ⟨rfl, k⟩
              exact ⟨rfl, ⟨X.it.trans k.it⟩⟩⟩
            have CR : Aside (∀ W, Aside (Keeps Nowhere W0 W) → Calls Tryd.prog 15 #[.slice qa 0 ca, .int .i64 o.t.k] W fun e w' => e = .returned (.int .i64 0) ∧ Aside (Keeps Nowhere W0 w')) := ⟨fun W X => by
              refine (countR _ [] o.t.k (R0.it.quiet X.it).1).mono ?_
              rintro e w' ⟨rfl, k⟩
              exact ⟨rfl, ⟨X.it.trans k.it⟩⟩⟩
            have X0 : Aside (Keeps Nowhere W0 W0) := ⟨Keeps.refl _ _⟩
            have X0d : Aside (Keeps Nowhere W0 W0.drew) := ⟨(Keeps.refl _ W0).drew⟩
            go_upto_region 24 with fail
            go_region_held3 (fun W => W.cell? ⟨b, 0, none⟩ = some (.int .i64 o.kind) ∧ W.cell? ⟨b, 1, none⟩ = some (.int .i64 o.t.k) ∧ W.cell? ⟨b, 2, none⟩ = some (.int .u32 o.t.s) ∧ W.cell? ⟨b, 3, none⟩ = some (.int .u32 o.t.v)) (exact CL.it _ (Aside.it (by with_reducible assumption))) (first
              | (go_at_call 14; with_reducible refine (CX.it _ (by with_reducible assumption)).mono ?_; rintro e wA ⟨rfl, XA⟩)
              | (go_at_call 15; with_reducible refine (CR.it _ (by with_reducible assumption)).mono ?_; rintro e wB ⟨rfl, XB⟩)
              | fail)
            all_goals
              go_wp2
              go_ret2
              refine ⟨.slice qa 0 ca, own, by simp, ⟨?_⟩⟩
              first
                | exact ⟨G0.it.quiet XB.it, R0.it.quiet XB.it⟩
                | exact ⟨G0.it.quiet XA.it, R0.it.quiet XA.it⟩
end Go.Proofs.YtialmmobkmdfpaaDoor
