/-
  StatesByStep, walked.
-/
import Derived.Test.YtbinopfcelebbaaDoorStE
namespace Go.Proofs.YtbinopfcelebbaaDoor
open Go.RowKit

section
variable {w w' : World} {A : Nat → Addr}
theorem nxE_ne' {s e : Int} (h : nxE s e ≠ 0) : nxS s e = 0 := by
  unfold nxE at h
  unfold nxS
  split at h
  · next hr =>
    rw [if_pos hr]
    split at h
    · next h0 => exact h0
    · exact absurd rfl h
  · next hr => exact if_neg hr
theorem next_p (s e : Int) (h : Aside (St9 A w)) : Calls Tryd.prog 16 #[.int .i64 s, .int .i64 e] w fun x w' => ∃ v, x = .returned (.tuple #[.int .i64 (nxS s e), v]) ∧ Hid (Coded A v (nxE s e)) ∧ Aside (Keeps Nowhere w w') ∧ Aside (St9 A w') := by
  refine (next_any s e h.it).mono ?_
  rintro x w' ⟨u, rfl, hu, m, rfl⟩
  exact ⟨u, rfl, hu, ⟨(Keeps.refl _ _).drewN m⟩, ⟨h.it.drewN m⟩⟩
set_option maxRecDepth 20000 in
set_option maxHeartbeats 4000000 in
theorem statesByStep_walk {A : Nat → Addr} (v : Value) (zs : List Int) (w : World) (hs : St9 A w) (hz : IntsIArg w v zs) : Calls Tryd.prog 6 #[v] w fun e w' => e = .returned (.bool true) ∧ Below w.heap.size w w' := by
  have H := Aside.mk hs
  have HZ := Aside.mk hz.1
  have H8 := Aside.mk hz.2
  obtain ⟨sa, sc, rfl, hlc, hmx, hat⟩ := hz.1
  obtain ⟨M, hM⟩ : ∃ M, Aside (M = zs.length) := ⟨_, ⟨rfl⟩⟩
  rw [← hM.it] at hlc HZ ⊢
  have hM63 : (M : Int) ≤ 9223372036854775807 := by
    have : sc ≤ 9223372036854775807 := hmx
    omega
  have HAT := Aside.mk hat
  clear hs hz hat hmx
  go_enter Tryd.func6, Tryd.ntmps6
  go_upto_region 5 with (first | (go_at_call 9; refine (wakes_p H).mono ?_; rintro x w1 ⟨rfl, K1, H1⟩) | fail)
  clear H
  go_loopw [3, 4] (fun sv x wr => ∃ (k : Nat) (r : Int), sv = .int .i64 r ∧ x = .int .i64 k ∧ Aside (Pl zs k r) ∧ Aside (Keeps Nowhere w wr) ∧ Aside (St9 A wr)) (fun _ x _ => M - (intOf x).toNat)
  case atStart => exact ⟨0, 0, rfl, rfl, ⟨Pl.start zs⟩, K1, H1⟩
  case round =>
    obtain ⟨k, r, rfl, rfl, HP, K2, H2⟩ := hrel
    clear K1 H1
    have HZ2 := Aside.mk (HZ.it.quiet K2.it)
    have hk : k ≤ M := by rw [hM.it]; exact HP.it.le
    rcases Nat.eq_or_lt_of_le hk with rfl | hlt
    · have hP := HP.it
      rw [hM.it] at hP
      obtain ⟨e1, e2, e3⟩ := hP.all
      rw [← hM.it] at e2
      have EP := Aside.mk (fun (w : World) (v : Value) h z => play_p (A := A) (w := w) (v := v) (zs := zs) h z)
      rw [e1, e2, e3] at EP
      clear HAT hP e1 e2 e3
      go_upto_region 16 with (first | (go_at_call 13; refine (events_p H2 HZ2 H8).mono ?_; rintro x w3 ⟨q, l, c, rfl, R3, K3, H3⟩) | (go_at_call 12; refine (EP.it _ _ H3 R3).mono ?_; rintro x w4 ⟨u, rfl, hu, K4, H4⟩; have e := hu.out.zero; subst e) | fail)
      go_wp2
      go_ret
      exact ⟨by simp, ((K2.it.trans K3.it).trans K4.it).bel⟩
    · have hx : zs[k]? = some (zs[k]'(by rw [← hM.it]; exact hlt)) := List.getElem?_eq_getElem _
      generalize zs[k]'(by rw [← hM.it]; exact hlt) = x at hx
      have HX := Aside.mk hx
      obtain ⟨hb, sb, so, rfl, hc0⟩ := HAT.it k x hx
      have hc : wr.cell? ⟨sb, so + k, none⟩ = some (.int .i64 x) := by rw [K2.it.bel.cell (World.block_lt_of_cell? w _ hc0)]; exact hc0
      clear hx HAT hc0
      have i2 : (k : Int) < M := by omega
      have i3 : (0 : Int) ≤ k := by omega
      have i4 : (k : Int) ≤ 9223372036854775806 := by omega
      have i5 : k + 1 ≤ sc := by omega
      have NX := Aside.mk (next_p r x H2)
      by_cases h0 : nxE r x = 0
      · have HQ := Aside.mk (HP.it.next HX.it h0)
        rw [h0] at NX
        obtain ⟨e1, e2, e3⟩ := HQ.it.taken
        have EP := Aside.mk (fun (w : World) (v : Value) h z => play_p (A := A) (w := w) (v := v) (zs := zs.take (k + 1)) h z)
        rw [e1, e2, e3] at EP
        have T8 : Aside ((zs.take (k + 1)).length * 8 ≤ 140737488351232) := ⟨by have := H8.it; rw [List.length_take]; omega⟩
        have T2 := Aside.mk (HZ2.it.take (k + 1) (by rw [← hM.it]; omega))
        clear h0 e1 e2 e3
        generalize nxS r x = t at NX HQ EP
        generalize zs.take (k + 1) = ts at EP T8 T2
        go_upto_region 12 with (first | (go_at_call 16; refine NX.it.mono ?_; rintro y w3 ⟨u, rfl, hu, K3, H3⟩; have e := hu.out.zero; subst e) | fail)
        have T3 := Aside.mk (T2.it.quiet K3.it)
        go_upto_region 13 with (first | (go_at_call 13; refine (events_p H3 T3 T8).mono ?_; rintro y w4 ⟨q, l, c, rfl, R4, K4, H4⟩) | (go_at_call 12; refine (EP.it _ _ H4 R4).mono ?_; rintro y w5 ⟨u5, rfl, hu5, K5, H5⟩; have e := hu5.out.zero; subst e) | fail)
        go_wp2
        go_roundw
        case rel => exact ⟨k + 1, t, rfl, by go_num, HQ, ⟨((K2.it.trans K3.it).trans K4.it).trans K5.it⟩, H5⟩
        case measure => simp [intOf]; omega
      · obtain ⟨e1, e2, e3⟩ := HP.it.fails HX.it h0
        have H0 := Aside.mk h0
        rw [nxE_ne' h0] at NX
        have EP := Aside.mk (fun (w : World) (v : Value) h z => play_p (A := A) (w := w) (v := v) (zs := zs) h z)
        rw [e1, e2, e3] at EP
        clear h0 e1 e2 e3
        generalize nxE r x = f at NX EP H0
        go_upto_region 9 with (first | (go_at_call 16; refine NX.it.mono ?_; rintro y w3 ⟨u, rfl, hu, K3, H3⟩; obtain ⟨a, e⟩ := hu.out.pos H0.it; subst e) | fail)
        have Z3 := Aside.mk (HZ2.it.quiet K3.it)
        go_upto_region 10 with (first | (go_at_call 13; refine (events_p H3 Z3 H8).mono ?_; rintro y w4 ⟨q, l, c, rfl, R4, K4, H4⟩) | (go_at_call 12; refine (EP.it _ _ H4 R4).mono ?_; rintro y w5 ⟨u5, rfl, hu5, K5, H5⟩) | fail)
        go_wp2_with (first | (go_at_call 15; refine (code_p H5 (by with_reducible assumption)).mono ?_; rintro x w4 ⟨rfl, rfl⟩) | fail)
        go_ret
        exact ⟨by simp, (((K2.it.trans K3.it).trans K4.it).trans K5.it).bel⟩
end
end Go.Proofs.YtbinopfcelebbaaDoor
