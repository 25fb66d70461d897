/-
  package feed: Feed, walked.
-/
import Derived.Test.YtjhjhmhhnifgmaaDoorFeedF
namespace Go.Proofs.YtjhjhmhhnifgmaaDoor
open Go.RowKit

theorem frm_one (h : List Int) (d : Value) (hd : d.oneCell' = true := by rfl) : ∀ u ∈ frmL h d, u.oneCell' = true := by
  intro u hu
  simp only [List.mem_cons, List.not_mem_nil, or_false] at hu
  rcases hu with rfl | rfl | rfl | rfl | rfl | rfl
  all_goals first | rfl | exact hd
section
variable {A : Nat → Addr} {w0 : World} {own : Nat → Nat} {i j : Nat} {w w' : World} {p : Nat} {most : Int} {hs : List Int}
set_option maxHeartbeats 4000000 in
set_option maxRecDepth 20000 in
theorem feed_live (hi : i ≠ 0) (hij : j ≠ i) (G : Gr A w0 own w) (D : DecL own i w p most hs) (q0 : Option Addr) (l0 c0 : Nat) (b0 : List Int) (R : RdS (fun k => own k = i) w (.slice q0 l0 c0) b0) (hb : AreBytes b0) (hN : hs.length + b0.length ≤ 1099511627776) :
    Calls Tryd.prog 8 #[dPtr p, .slice q0 l0 c0] w fun e w' => ∃ fv ev own', e = .returned (.tuple #[fv, ev]) ∧ Aside (Fed A w0 own i j w p most (prs most (hs ++ b0)) own' w' fv ev) := by
  have h0 : Aside (l0 = b0.length ∧ FeedAt A w0 own i j w p most (prs most (hs ++ b0)) (hs.length + b0.length) own w hs b0 [] (.slice q0 l0 c0) (.slice none 0 0)) := by
    obtain ⟨a, c, e, _⟩ := R.shape
    injection e with _ e _
    exact ⟨e, ⟨G, fun _ _ => rfl, Keeps.refl _ _, D.d, D.l, FramesD.none _ _ _ (Nat.le_refl _), R.mono (fun k e hk => e.elim id (fun e => absurd e (by omega))), fun k hk => by simp [Value.ownBlock] at hk, G.g.size, hb, by simp, by simp⟩⟩
  have hi := Aside.mk hi
  have hij := Aside.mk hij
  have hN := Aside.mk hN
  have c7 : w.cell? ⟨p, 7, none⟩ = some (.pointer none) := by
    obtain ⟨g, ⟨_, ⟨hv, d, _⟩, _, _⟩, _⟩ := D.d
    exact d.c.cell 7
  clear G D R hb
  generalize prs most (hs ++ b0) = T at *
  go_enter Tryd.func8, Tryd.ntmps8
  go_wp2
  go_step3
  go_wp2_with fail
  go_step3
  go_wp2_with fail
  go_loopw [1, 6] (fun b wh wr => ∃ (q : Option Addr) (l c : Nat) (own' : Nat → Nat) (hs' bs' : List Int) (fs' : List (List Int × List Int)), b = .slice q l c ∧ (∃ a n m, wh = .slice a n m) ∧ Aside (l = bs'.length ∧ FeedAt A w0 own i j w p most T (hs.length + b0.length) own' wr hs' bs' fs' (.slice q l c) wh)) (fun b _ _ => slen b)
  case atStart => exact ⟨_, _, _, _, _, _, _, rfl, ⟨_, _, _, rfl⟩, h0⟩
  case round =>
    clear h0 c7
    obtain ⟨q, l, c, own1, hs1, bs1, fs1, rfl, ⟨a1, n1, m1, rfl⟩, F1⟩ := hrel
    by_cases hl : l = 0
    · subst hl
      have hbs : bs1 = [] := List.eq_nil_of_length_eq_zero F1.it.1.symm
      subst hbs
      obtain ⟨g1, d1, hg1⟩ := F1.it.2.D
      obtain ⟨hv1, e1, ho1⟩ := d1.d
      have EL := Aside.mk (err_live e1.c)
      clear e1 ho1 d1 hg1
      go_wp2_with (go_at_call 17; refine EL.it.mono ?_; rintro e w5 ⟨rfl, n5, rfl⟩)
      try rw [Exit.noGoto_ret]
      go_ret2
      exact ⟨_, _, _, rfl, ⟨F1.it.2.fin n5⟩⟩
    · have hl0 : 0 < l := by omega
      have hl0' : (0 : Int) < (l : Int) := by omega
      obtain ⟨g1, M1, hg1⟩ := F1.it.2.mid
      have hlv := F1.it.2.live
      have hbH := M1.D.b
      have hwI := wantsI_live hlv hbH hg1
      have hw0 := hlv.wants
      have hlen := Aside.mk F1.it.1
      have hNb := F1.it.2.len
      have hhl : hs1.length ≤ 4294967400 := by
        rcases hlv with h | ⟨_, _, h⟩
        · omega
        · have := dL_bounds (hbH.take 12)
          have := szH_nat (hbH.take 12)
          unfold szH at this
          split at this <;> omega
      obtain ⟨n, hn⟩ : ∃ n, n = min bs1.length (wantsP szN hs1) := ⟨_, rfl⟩
      have hn0 : 0 < n := by have := F1.it.1; omega
      have hnb : n ≤ bs1.length := by omega
      have hnw : n ≤ wantsP szN hs1 := by omega
      have hmin : min (bs1.length : Int) (wantsI hs1.length (dT g1) (dL g1)) = n := by rw [hwI]; omega
      have TK := Aside.mk (take_f hi.it hij.it M1 F1.it.2.b n hmin hhl (by have := hN.it; omega))
      have hn0' := Aside.mk hn0
      have hnb' := Aside.mk hnb
      clear hn0
      have hT := Aside.mk F1.it.2.T
      have hlt := round_len hs1 bs1 hnb
      have hmore := round_more hlv hnb hnw
      have hhl2 : Aside ((hs1 ++ bs1.take n).length ≤ 4294967400) := ⟨by rw [hlt]; unfold wantsP at hnw; have e := szH_nat (hbH.take 12); have := dL_bounds (hbH.take 12); unfold szH at e; split at hnw <;> split at e <;> omega⟩
      have AB : Aside (∀ xs : List FX, Aside (xs.map (·.1) = fs1) → (xs.length + 1) * 40 ≤ 140737488355328) := ⟨fun xs e => by have := congrArg List.length e.it; rw [List.length_map] at this; have := hN.it; omega⟩
      have AM : Aside (∀ xs : List FX, Aside (xs.map (·.1) = fs1) → xs.length + 1 ≤ maxLen) := ⟨fun xs e => by have := AB.it xs e; unfold maxLen; omega⟩
      clear hmin hn hwI M1 hw0 hNb hhl hnw hl hnb
      generalize hxx : hs1 ++ bs1.take n = hs2 at *
      by_cases h12 : hs2.length = 12
      · have LL := Aside.mk h12
        cases hck0 : ckH most hs2 with
        | false =>
          have hck := Aside.mk hck0
          have TT : Aside (T.fs = fs1 ∧ T.dead = some hs2) := by
            have := hT.it
            rw [prs, round_dead (n := n) (hxx ▸ h12) (hxx ▸ hck0), hxx] at this
            exact ⟨by rw [this]; simp⟩
          clear hck0 h12 hlt hmore hbH hlv AB AM hxx
          go_wp2_with (first | (go_at_call 18; refine TK.it.mono ?_; rintro e w2 ⟨q2, l2, c2, own2, rfl, X2⟩; obtain ⟨qh, ch, hh⟩ := X2.it.2.held LL.it) | (go_at_call 19; refine (judge_bad hi.it hij.it X2.it.2 LL.it hck.it).mono ?_; rintro e w3 ⟨own3, rfl, X3⟩; obtain ⟨vb, g3, C3, V3⟩ := X3.it.D.d; have EL := Aside.mk (err_dead C3); have C3 := Aside.mk C3; have V3 := Aside.mk V3) | (go_at_call 17; refine EL.it.mono ?_; rintro e w5 ⟨rfl, n5, rfl⟩))
          try rw [Exit.noGoto_ret]
          go_ret2
          exact ⟨_, _, _, rfl, ⟨X3.it.fin n5 X3.it.D.hp ⟨g3, C3.it⟩ V3.it T TT.it.1 TT.it.2⟩⟩
        | true =>
          have hck := Aside.mk hck0
          have hb2 : AreBytes hs2 := hxx ▸ hbH.append (F1.it.2.b.take n)
          have ht2 : hs2.take 12 = hs2 := List.take_of_length_le (by omega)
          have hw2 : wantsI hs2.length (dT hs2) (dL hs2) = (szN hs2 : Int) := by
            unfold wantsI
            rw [if_neg (by omega), szH_nat hb2]
            omega
          have hxx := Aside.mk hxx
          by_cases hz0 : szN hs2 = 0
          · have hz : Aside (wantsI hs2.length (dT hs2) (dL hs2) = 0) := ⟨by rw [hw2]; omega⟩
            have h12' : Aside (12 ≤ hs2.length) := ⟨by omega⟩
            have GE : Aside (hs2 = hs2.take 12) := ⟨ht2.symm⟩
            have CK : Aside (ckH most (hs2.take 12) = true) := ⟨by rw [ht2]; exact hck0⟩
            have LN : Aside (hs2.length = 12 + szN (hs2.take 12)) := ⟨by rw [ht2]; omega⟩
            clear hck0 h12 hlt hmore hbH hlv hw2 hz0 hb2 ht2
            go_wp2_with (first | (go_at_call 18; refine TK.it.mono ?_; rintro e w2 ⟨q2, l2, c2, own2, rfl, X2⟩; obtain ⟨qh, ch, hh⟩ := X2.it.2.held LL.it) | (go_at_call 19; refine (judge_f hi.it hij.it X2.it.2 LL.it hck.it).mono ?_; rintro e w3 ⟨own3, rfl, X3⟩) | (go_at_call 12; refine (wants_f X3.it hhl2.it _ hz.it).mono ?_; rintro e w4 ⟨rfl, X4⟩) | (go_at_call 20; refine (letGo_f hi.it hij.it X4.it h12'.it hhl2.it).mono ?_; rintro e w5 ⟨q5, l5, c5, own5, rfl, X5⟩; obtain ⟨xs5, y1, y2, y3, y4, y5⟩ := X5.it.2.2.1; have y1 := Aside.mk y1; have y2 := Aside.mk y2; have y3 := Aside.mk y3; have y4 := Aside.mk y4; have y5 := Aside.mk y5) | (at_builtin; refine wpList_appendR rfl (.tmp 41) (.tmp 44) 34 rfl 46 _ 6 40 Tryd.underlying34 frameInfo rfl (by decide) w5 ((Keeps.refl _ _).alloc _) 0 _ _ _ y2.it _ 1 (frmL hs2 (.slice q5 l5 c5)) (readsK_new w5 46 (frmL hs2 (.slice q5 l5 c5))) (frm_one _ _) (AB.it _ y1) (AM.it _ y1) (Nat.zero_le _) rfl rfl ?_; intro v6 w6 o6 k6 b6; obtain ⟨q6, c6, rfl⟩ := owns_val o6.it))
            go_round
            case rel => exact ⟨q2, l2, c2, _, _, _, _, rfl, ⟨_, _, _, rfl⟩, ⟨by rw [X2.it.1]; simp, F1.it.2.give hnb'.it (hxx.it ▸ pushed hij.it X5.it.1 X5.it.2.1 y1.it y2.it y3.it y4.it y5.it X5.it.2.2.2 o6.it k6.it b6.it GE.it) (hxx.it ▸ h12'.it) (hxx.it ▸ CK.it) (hxx.it ▸ LN.it)⟩⟩
            case measure => have := X2.it.1; have := hlen.it; have := hn0'.it; show l2 < l; omega
          · obtain ⟨z, hz, hz1⟩ : ∃ z : Int, Aside (wantsI hs2.length (dT hs2) (dL hs2) = z) ∧ 0 < z := ⟨_, ⟨rfl⟩, by rw [hw2]; omega⟩
            have LV : Aside (Live (ckH most) szN hs2) := ⟨.inr ⟨by omega, by rw [ht2]; exact hck0, by rw [ht2]; omega⟩⟩
            have HG : Aside (12 ≤ hs2.length → hs2 = hs2.take 12) := ⟨fun _ => ht2.symm⟩
            clear hck0 h12 hlt hmore hbH hlv hw2 hz0 hb2 ht2 AB AM
            go_wp2_with (first | (go_at_call 18; refine TK.it.mono ?_; rintro e w2 ⟨q2, l2, c2, own2, rfl, X2⟩; obtain ⟨qh, ch, hh⟩ := X2.it.2.held LL.it) | (go_at_call 19; refine (judge_f hi.it hij.it X2.it.2 LL.it hck.it).mono ?_; rintro e w3 ⟨own3, rfl, X3⟩) | (go_at_call 12; refine (wants_f X3.it hhl2.it _ hz.it).mono ?_; rintro e w4 ⟨rfl, X4⟩))
            go_round
            case rel => exact ⟨q2, l2, c2, _, _, _, _, rfl, ⟨_, _, _, rfl⟩, ⟨by rw [X2.it.1]; simp, hxx.it ▸ F1.it.2.on hnb'.it (hxx.it ▸ X4.it) (hxx.it ▸ LV.it) (hxx.it ▸ HG.it)⟩⟩
            case measure => have := X2.it.1; have := hlen.it; have := hn0'.it; show l2 < l; omega
      · obtain ⟨m2, LL⟩ : ∃ m2, Aside (hs2.length = m2) := ⟨_, ⟨rfl⟩⟩
        have hne : ((m2 : Int) == 12) = false := by rw [beq_eq_false_iff_ne]; have := LL.it; omega
        by_cases hlt12 : hs2.length < 12
        · obtain ⟨z, hz, hz1⟩ : ∃ z : Int, Aside (wantsI hs2.length (dT g1) (dL g1) = z) ∧ 0 < z := ⟨_, ⟨rfl⟩, by unfold wantsI; rw [if_pos (by omega)]; omega⟩
          have LV : Aside (Live (ckH most) szN hs2) := ⟨.inl hlt12⟩
          have HG : Aside (12 ≤ hs2.length → g1 = hs2.take 12) := ⟨fun h => by omega⟩
          have hxx := Aside.mk hxx
          clear h12 hlt hmore hbH hlv hlt12 AB AM
          go_wp2_with (first | (go_at_call 18; refine TK.it.mono ?_; rintro e w2 ⟨q2, l2, c2, own2, rfl, X2⟩; obtain ⟨qh, ch, hh⟩ := X2.it.2.held LL.it)  | (go_at_call 12; refine (wants_f X2.it.2 hhl2.it _ hz.it).mono ?_; rintro e w4 ⟨rfl, X4⟩))
          go_round
          case rel => exact ⟨q2, l2, c2, _, _, _, _, rfl, ⟨_, _, _, rfl⟩, ⟨by rw [X2.it.1]; simp, hxx.it ▸ F1.it.2.on hnb'.it (hxx.it ▸ X4.it) (hxx.it ▸ LV.it) (hxx.it ▸ HG.it)⟩⟩
          case measure => have := X2.it.1; have := hlen.it; have := hn0'.it; show l2 < l; omega
        · obtain ⟨r1, r2, r3, r4⟩ := hmore (by omega)
          have hgt : g1 = hs2.take 12 := by rw [r2]; exact hg1 r1
          have hw2 : wantsI hs2.length (dT g1) (dL g1) = 12 + (szN g1 : Int) - hs2.length := by
            unfold wantsI
            rw [if_neg (by omega), szH_nat (by rw [hg1 r1]; exact hbH.take 12)]
          rw [← r2, ← hgt] at r3 r4
          have hxx := Aside.mk hxx
          by_cases hz0 : hs2.length = 12 + szN g1
          · have hz : Aside (wantsI hs2.length (dT g1) (dL g1) = 0) := ⟨by rw [hw2]; omega⟩
            have h12' : Aside (12 ≤ hs2.length) := ⟨by omega⟩
            have CK : Aside (ckH most (hs2.take 12) = true) := ⟨by rw [← hgt]; exact r3⟩
            have LN : Aside (hs2.length = 12 + szN (hs2.take 12)) := ⟨by rw [← hgt]; exact hz0⟩
            have GE : Aside (g1 = hs2.take 12) := ⟨hgt⟩
            clear h12 hlt hmore hbH hlv hlt12 r1 r2 r3 r4 hgt hw2 hz0 hg1
            go_wp2_with (first | (go_at_call 18; refine TK.it.mono ?_; rintro e w2 ⟨q2, l2, c2, own2, rfl, X2⟩; obtain ⟨qh, ch, hh⟩ := X2.it.2.held LL.it)  | (go_at_call 12; refine (wants_f X2.it.2 hhl2.it _ hz.it).mono ?_; rintro e w4 ⟨rfl, X4⟩) | (go_at_call 20; refine (letGo_f hi.it hij.it X4.it h12'.it hhl2.it).mono ?_; rintro e w5 ⟨q5, l5, c5, own5, rfl, X5⟩; obtain ⟨xs5, y1, y2, y3, y4, y5⟩ := X5.it.2.2.1; have y1 := Aside.mk y1; have y2 := Aside.mk y2; have y3 := Aside.mk y3; have y4 := Aside.mk y4; have y5 := Aside.mk y5) | (at_builtin; refine wpList_appendR rfl (.tmp 41) (.tmp 44) 34 rfl 46 _ 6 40 Tryd.underlying34 frameInfo rfl (by decide) w5 ((Keeps.refl _ _).alloc _) 0 _ _ _ y2.it _ 1 (frmL g1 (.slice q5 l5 c5)) (readsK_new w5 46 (frmL g1 (.slice q5 l5 c5))) (frm_one _ _) (AB.it _ y1) (AM.it _ y1) (Nat.zero_le _) rfl rfl ?_; intro v6 w6 o6 k6 b6; obtain ⟨q6, c6, rfl⟩ := owns_val o6.it))
            go_round
            case rel => exact ⟨q2, l2, c2, _, _, _, _, rfl, ⟨_, _, _, rfl⟩, ⟨by rw [X2.it.1]; simp, F1.it.2.give hnb'.it (hxx.it ▸ pushed hij.it X5.it.1 X5.it.2.1 y1.it y2.it y3.it y4.it y5.it X5.it.2.2.2 o6.it k6.it b6.it GE.it) (hxx.it ▸ h12'.it) (hxx.it ▸ CK.it) (hxx.it ▸ LN.it)⟩⟩
            case measure => have := X2.it.1; have := hlen.it; have := hn0'.it; show l2 < l; omega
          · obtain ⟨z, hz, hz1⟩ : ∃ z : Int, Aside (wantsI hs2.length (dT g1) (dL g1) = z) ∧ 0 < z := ⟨_, ⟨rfl⟩, by rw [hw2]; omega⟩
            have LV : Aside (Live (ckH most) szN hs2) := ⟨.inr ⟨by omega, by rw [← hgt]; exact r3, by rw [← hgt]; omega⟩⟩
            have HG : Aside (12 ≤ hs2.length → g1 = hs2.take 12) := ⟨fun _ => hgt⟩
            clear h12 hlt hmore hbH hlv hlt12 r1 r2 r3 r4 hgt hw2 hz0 hg1 AB AM
            go_wp2_with (first | (go_at_call 18; refine TK.it.mono ?_; rintro e w2 ⟨q2, l2, c2, own2, rfl, X2⟩; obtain ⟨qh, ch, hh⟩ := X2.it.2.held LL.it)  | (go_at_call 12; refine (wants_f X2.it.2 hhl2.it _ hz.it).mono ?_; rintro e w4 ⟨rfl, X4⟩))
            go_round
            case rel => exact ⟨q2, l2, c2, _, _, _, _, rfl, ⟨_, _, _, rfl⟩, ⟨by rw [X2.it.1]; simp, hxx.it ▸ F1.it.2.on hnb'.it (hxx.it ▸ X4.it) (hxx.it ▸ LV.it) (hxx.it ▸ HG.it)⟩⟩
            case measure => have := X2.it.1; have := hlen.it; have := hn0'.it; show l2 < l; omega
end
end Go.Proofs.YtjhjhmhhnifgmaaDoor
