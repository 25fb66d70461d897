/-
  package pipe: letGoOfFirst (written by gen_PpG.py)
-/
import Derived.Test.YtpmmjekaefemeaaDoorPpF
namespace Go.Proofs.YtpmmjekaefemeaaDoor
open Go.RowKit

section
variable {own own' own1 : Nat → Nat} {w w' w1 W : World} {rs rs1 : List (List Int)} {r r0 r1 L b : List Int} {I : Nat → Prop} {i d p qp gone ps : Nat} {q q1 : List El19} {bg : Value} {cut : Bool}

set_option maxHeartbeats 2000000 in
theorem letFirst19 (h : PpL own i w p L ps) (hne : L ≠ []) (m : Nat) (hm : 1 ≤ m) (hL : L.length ≤ 2199023255551) :
    Calls Tryd.prog 34 #[ptr p, .int .i64 m] w fun e w' => ∃ a k c own', e = .returned (.slice a k c) ∧ Aside (1 ≤ k ∧ k ≤ m ∧ k ≤ L.length) ∧ Aside (RdO own' (i + 2) w' (.slice a k c) (L.take k) ∧ PpL own' i w' p (L.drop k) ps ∧ Sn (fun j => j = i ∨ j = i + 1) own w own' w') := by
  obtain ⟨qp, q, bg, r0, rs, gone, h, hLe⟩ := h
  obtain ⟨c0, c1, c2, _, _, f0, f1, _⟩ := h.cells
  by_cases h0 : r0 = []
  · subst h0
    obtain ⟨ba, bc, hbg⟩ := h.bg.shape
    rw [List.length_nil] at hbg
    subst hbg
    obtain ⟨r, rs, rfl⟩ : ∃ r rs', rs = r :: rs' := by
      cases rs with
      | nil => exact absurd (by simpa using hLe) hne
      | cons r rs => exact ⟨_, _, rfl⟩
    obtain ⟨x, q, rfl⟩ : ∃ x q', q = x :: q' := by
      cases q with
      | nil => exact h.pcs.elim
      | cons x q => exact ⟨_, _, rfl⟩
    have hsm := h.sum.2
    have GT := Aside.mk (Fbs.get_o x h.fifo (by rw [hLe] at hL; simp only [List.length_cons, List.nil_append] at hsm hL; omega))
    have H := Aside.mk h
    obtain ⟨⟨xb, xl, xc⟩, xn⟩ := x
    have HLe := Aside.mk hLe
    clear h c1 f0 f1 hsm hLe
    go_enter Tryd.func34, Tryd.ntmps34
    go_upto_region 3 with (go_at_call 38; refine GT.it.mono ?_; clear GT c0 c2; rintro e w2 ⟨rfl, F2, K2⟩; have G2 := Aside.mk (Lg.got H.it F2.it K2.it); obtain ⟨e0, ef⟩ := G2.it.2)
    obtain ⟨g, o, R, c, r1, rs1, q1, own1, X, hR⟩ : ∃ g o R c r1 rs1 q1 own1, Aside (Lg own w i p qp L ps own1 (w2.setCell ⟨p, 0, none⟩ (.slice (some ⟨xb, 0, none⟩) xl xc)) q1 (.slice (some ⟨g, o, none⟩) R c) r1 rs1 gone) ∧ r1.length = R := by
      refine ⟨xb, 0, xl, xc, r, rs, q, give own w.heap.size i, ⟨?_⟩, ?_⟩
      · rw [HLe.it]; exact G2.it.1
      · obtain ⟨a, c, e⟩ := G2.it.1.x.bg.shape
        injection e with _ e _
        exact e.symm
    clear G2 e0 ef H F2 K2
    generalize (w2.setCell ⟨p, 0, none⟩ (.slice (some ⟨xb, 0, none⟩) xl xc)) = w1 at X ⊢

    obtain ⟨c0, c1, _, _, _, f0, f1, _⟩ := X.it.x.cells
    have hRL : R ≤ 2199023255551 := by have := congrArg List.length X.it.e; rw [List.length_append] at this; omega
    have hR1 : 1 ≤ R := by have := List.length_pos_iff.2 X.it.n; omega
    obtain ⟨hRc, hcm⟩ : R ≤ c ∧ True := by
      obtain ⟨⟨a', c', e, h1, _⟩, _⟩ := X.it.x.bg.1
      injection e with _ e2 e3
      rw [bv_length] at h1
      exact ⟨by omega, trivial⟩
    clear hcm
    have hgl := X.it.x.gl
    rw [hR] at hgl
    obtain ⟨k, hk⟩ : ∃ k : Nat, (k : Int) = if R < m then (R : Int) else m := by
      by_cases e : R < m
      · exact ⟨R, by rw [if_pos e]⟩
      · exact ⟨m, by rw [if_neg e]⟩
    have hk1 : 1 ≤ k := by split at hk <;> omega
    have hk2 : k ≤ m := by split at hk <;> omega
    have hk3 : k ≤ R := by split at hk <;> omega
    have HKK := Aside.mk hk
    have HKL : Aside (1 ≤ k ∧ k ≤ m ∧ k ≤ L.length) := ⟨hk1, hk2, by have := congrArg List.length X.it.e; rw [List.length_append] at this; omega⟩
    have i0 : (0 : Int) ≤ k := by omega
    have i1 : (k : Int) ≤ R := by omega
    have i2 : (R : Int) ≤ c := by omega
    have i3 : (k : Int) ≤ c := by omega
    have i4 : (gone : Int) + k ≤ 9223372036854775807 := by omega
    clear hk
    go_upto_region 4 with fail
    rw [← HKK.it]
    go_upto_region 5 with fail
    obtain ⟨n, hn⟩ : ∃ n : Nat, gone + k = n := ⟨_, rfl⟩
    have hnI : (gone : Int) + k = (n : Int) := by omega
    by_cases hck : c = k
    · have hRk : R = k := by omega
      subst hck
      subst hRk
      have T1 := Aside.mk (X.it.took (n := n) hR (Nat.le_refl _) (a := ⟨g, o, none⟩) (by rw [if_pos rfl]))
      rw [Nat.sub_self] at T1
      have T2 := Aside.mk (T1.it.quiet (Keeps.refl _ _).drew)
      have hn0 : (0 : Int) < n := by omega
      clear T1 HKK
      go_region
      clear c0 c1 f0 f1 hn hnI i4
      obtain ⟨w3, hw3⟩ : ∃ w3, w3 = ((w1.setCell ⟨p, 0, none⟩ (.slice (some ⟨g, o, none⟩) 0 0)).setCell ⟨p, 1, none⟩ (.int .i64 n)).drew := ⟨_, rfl⟩
      rw [← hw3] at T2 ⊢
      clear hw3
      obtain ⟨e0, e1, fe0, fe1⟩ := T2.it.cells
      clear fe0 fe1
      go_wp2_with fail
      go_quiet (fail)
      have T3 := Aside.mk (T2.it.quiet ((Keeps.refl Nowhere w3).drewN nq))
      have T5 := Aside.mk (T2.it.quiet (((Keeps.refl Nowhere w3).drewN nq).alloc (.cells #[.slice (some ⟨g, o, none⟩) 0 0] 26)))
      have JN := Aside.mk (join_any (w := w3.drewN nq) T3.it.bg.1 (by rw [List.length_drop]; omega) rfl (Keeps.refl _ _))
      rw [List.length_drop, hR] at JN
      rw [Nat.sub_self] at JN
      go_upto_region 8 with (first
        | (go_at_call 28; refine JN.it.mono ?_; clear JN e0 e1; rintro e w4 ⟨qa, qc, rfl, X4⟩; obtain ⟨y0, y1, y2, y3⟩ := (T5.it.quiet X4.it.k).cells)
        | fail)
      go_wp2_with fail
      go_ret
      have T6 := T5.it.copy X4.it
      exact ⟨_, _, _, _, rfl, HKL, ⟨T6.out, T6.fin (Nat.zero_le _), T6.s⟩⟩
    · have T1 := Aside.mk (X.it.took (n := n) hR hk3 (a := ⟨g, o + k, none⟩) (by rw [if_neg hck]))
      have T2 := Aside.mk (T1.it.quiet (Keeps.refl _ _).drew)
      have HN := Aside.mk hn
      clear T1 HKK
      go_region
      clear c0 c1 f0 f1 hn hnI i4
      obtain ⟨w3, hw3⟩ : ∃ w3, w3 = ((w1.setCell ⟨p, 0, none⟩ (.slice (some ⟨g, o + k, none⟩) (R - k) (c - k))).setCell ⟨p, 1, none⟩ (.int .i64 n)).drew := ⟨_, rfl⟩
      rw [← hw3] at T2 ⊢
      clear hw3
      obtain ⟨e0, e1, fe0, fe1⟩ := T2.it.cells
      clear fe0 fe1
      by_cases ht : R - k < n
      · have ht' : ((R - k : Nat) : Int) < n := by omega
        go_wp2_with fail
        go_quiet (fail)
        have T3 := Aside.mk (T2.it.quiet ((Keeps.refl Nowhere w3).drewN nq))
        have T5 := Aside.mk (T2.it.quiet (((Keeps.refl Nowhere w3).drewN nq).alloc (.cells #[.slice (some ⟨g, o + k, none⟩) (R - k) (c - k)] 26)))
        have JN := Aside.mk (join_any (w := w3.drewN nq) T3.it.bg.1 (by rw [List.length_drop]; omega) rfl (Keeps.refl _ _))
        rw [List.length_drop, hR] at JN
        go_upto_region 8 with (first
          | (go_at_call 28; refine JN.it.mono ?_; clear JN e0 e1; rintro e w4 ⟨qa, qc, rfl, X4⟩; obtain ⟨y0, y1, y2, y3⟩ := (T5.it.quiet X4.it.k).cells)
          | fail)
        go_wp2_with fail
        go_ret
        have T6 := T5.it.copy X4.it
        exact ⟨_, _, _, _, rfl, HKL, ⟨T6.out, T6.fin (Nat.zero_le _), T6.s⟩⟩
      · have ht' : ¬ ((R - k : Nat) : Int) < n := by omega
        go_wp2_with fail
        go_quiet (fail)
        go_wp2_with fail
        go_ret
        have T3 := T2.it.quiet ((Keeps.refl Nowhere w3).drewN nq)
        exact ⟨_, _, _, _, rfl, HKL, ⟨T3.out, T3.fin (by rw [List.length_drop, hR]; omega), T3.s⟩⟩

  · obtain ⟨g, o, c, hv, _⟩ := h.bg.1.at h0
    subst hv
    have X : Aside (Lg own w i p qp L ps own w q (.slice (some ⟨g, o, none⟩) r0.length c) r0 rs gone) := ⟨⟨h, h0, hLe, Sn.refl _ _ _⟩⟩
    have hlb : ((r0.length : Int) == 0) = false := beq_eq_false_iff_ne.2 (by have := List.length_pos_iff.2 h0; omega)
    clear h hLe h0 c1 c2 f0 f1
    obtain ⟨R, hR⟩ : ∃ R, r0.length = R := ⟨_, rfl⟩
    rw [hR] at X hlb c0
    go_enter Tryd.func34, Tryd.ntmps34
    go_upto_region 3 with fail
    clear c0

    obtain ⟨c0, c1, _, _, _, f0, f1, _⟩ := X.it.x.cells
    have hRL : R ≤ 2199023255551 := by have := congrArg List.length X.it.e; rw [List.length_append] at this; omega
    have hR1 : 1 ≤ R := by have := List.length_pos_iff.2 X.it.n; omega
    obtain ⟨hRc, hcm⟩ : R ≤ c ∧ True := by
      obtain ⟨⟨a', c', e, h1, _⟩, _⟩ := X.it.x.bg.1
      injection e with _ e2 e3
      rw [bv_length] at h1
      exact ⟨by omega, trivial⟩
    clear hcm
    have hgl := X.it.x.gl
    rw [hR] at hgl
    obtain ⟨k, hk⟩ : ∃ k : Nat, (k : Int) = if R < m then (R : Int) else m := by
      by_cases e : R < m
      · exact ⟨R, by rw [if_pos e]⟩
      · exact ⟨m, by rw [if_neg e]⟩
    have hk1 : 1 ≤ k := by split at hk <;> omega
    have hk2 : k ≤ m := by split at hk <;> omega
    have hk3 : k ≤ R := by split at hk <;> omega
    have HKK := Aside.mk hk
    have HKL : Aside (1 ≤ k ∧ k ≤ m ∧ k ≤ L.length) := ⟨hk1, hk2, by have := congrArg List.length X.it.e; rw [List.length_append] at this; omega⟩
    have i0 : (0 : Int) ≤ k := by omega
    have i1 : (k : Int) ≤ R := by omega
    have i2 : (R : Int) ≤ c := by omega
    have i3 : (k : Int) ≤ c := by omega
    have i4 : (gone : Int) + k ≤ 9223372036854775807 := by omega
    clear hk
    go_upto_region 4 with fail
    rw [← HKK.it]
    go_upto_region 5 with fail
    obtain ⟨n, hn⟩ : ∃ n : Nat, gone + k = n := ⟨_, rfl⟩
    have hnI : (gone : Int) + k = (n : Int) := by omega
    by_cases hck : c = k
    · have hRk : R = k := by omega
      subst hck
      subst hRk
      have T1 := Aside.mk (X.it.took (n := n) hR (Nat.le_refl _) (a := ⟨g, o, none⟩) (by rw [if_pos rfl]))
      rw [Nat.sub_self] at T1
      have T2 := Aside.mk (T1.it.quiet (Keeps.refl _ _).drew)
      have hn0 : (0 : Int) < n := by omega
      clear T1 HKK
      go_region
      clear c0 c1 f0 f1 hn hnI i4
      obtain ⟨w3, hw3⟩ : ∃ w3, w3 = ((w.setCell ⟨p, 0, none⟩ (.slice (some ⟨g, o, none⟩) 0 0)).setCell ⟨p, 1, none⟩ (.int .i64 n)).drew := ⟨_, rfl⟩
      rw [← hw3] at T2 ⊢
      clear hw3
      obtain ⟨e0, e1, fe0, fe1⟩ := T2.it.cells
      clear fe0 fe1
      go_wp2_with fail
      go_quiet (fail)
      have T3 := Aside.mk (T2.it.quiet ((Keeps.refl Nowhere w3).drewN nq))
      have T5 := Aside.mk (T2.it.quiet (((Keeps.refl Nowhere w3).drewN nq).alloc (.cells #[.slice (some ⟨g, o, none⟩) 0 0] 26)))
      have JN := Aside.mk (join_any (w := w3.drewN nq) T3.it.bg.1 (by rw [List.length_drop]; omega) rfl (Keeps.refl _ _))
      rw [List.length_drop, hR] at JN
      rw [Nat.sub_self] at JN
      go_upto_region 8 with (first
        | (go_at_call 28; refine JN.it.mono ?_; clear JN e0 e1; rintro e w4 ⟨qa, qc, rfl, X4⟩; obtain ⟨y0, y1, y2, y3⟩ := (T5.it.quiet X4.it.k).cells)
        | fail)
      go_wp2_with fail
      go_ret
      have T6 := T5.it.copy X4.it
      exact ⟨_, _, _, _, rfl, HKL, ⟨T6.out, T6.fin (Nat.zero_le _), T6.s⟩⟩
    · have T1 := Aside.mk (X.it.took (n := n) hR hk3 (a := ⟨g, o + k, none⟩) (by rw [if_neg hck]))
      have T2 := Aside.mk (T1.it.quiet (Keeps.refl _ _).drew)
      have HN := Aside.mk hn
      clear T1 HKK
      go_region
      clear c0 c1 f0 f1 hn hnI i4
      obtain ⟨w3, hw3⟩ : ∃ w3, w3 = ((w.setCell ⟨p, 0, none⟩ (.slice (some ⟨g, o + k, none⟩) (R - k) (c - k))).setCell ⟨p, 1, none⟩ (.int .i64 n)).drew := ⟨_, rfl⟩
      rw [← hw3] at T2 ⊢
      clear hw3
      obtain ⟨e0, e1, fe0, fe1⟩ := T2.it.cells
      clear fe0 fe1
      by_cases ht : R - k < n
      · have ht' : ((R - k : Nat) : Int) < n := by omega
        go_wp2_with fail
        go_quiet (fail)
        have T3 := Aside.mk (T2.it.quiet ((Keeps.refl Nowhere w3).drewN nq))
        have T5 := Aside.mk (T2.it.quiet (((Keeps.refl Nowhere w3).drewN nq).alloc (.cells #[.slice (some ⟨g, o + k, none⟩) (R - k) (c - k)] 26)))
        have JN := Aside.mk (join_any (w := w3.drewN nq) T3.it.bg.1 (by rw [List.length_drop]; omega) rfl (Keeps.refl _ _))
        rw [List.length_drop, hR] at JN
        go_upto_region 8 with (first
          | (go_at_call 28; refine JN.it.mono ?_; clear JN e0 e1; rintro e w4 ⟨qa, qc, rfl, X4⟩; obtain ⟨y0, y1, y2, y3⟩ := (T5.it.quiet X4.it.k).cells)
          | fail)
        go_wp2_with fail
        go_ret
        have T6 := T5.it.copy X4.it
        exact ⟨_, _, _, _, rfl, HKL, ⟨T6.out, T6.fin (Nat.zero_le _), T6.s⟩⟩
      · have ht' : ¬ ((R - k : Nat) : Int) < n := by omega
        go_wp2_with fail
        go_quiet (fail)
        go_wp2_with fail
        go_ret
        have T3 := T2.it.quiet ((Keeps.refl Nowhere w3).drewN nq)
        exact ⟨_, _, _, _, rfl, HKL, ⟨T3.out, T3.fin (by rw [List.length_drop, hR]; omega), T3.s⟩⟩

end
end Go.Proofs.YtpmmjekaefemeaaDoor
