/-
  package ids: New, Next, rise, Sent, Hear
-/
import Derived.Test.YthfedcebbnlmaaaDoorIdA
namespace Go.Proofs.YthfedcebbnlmaaaDoor
open Go.RowKit

section
variable {own own' : Nat → Nat} {i : Nat} {w w' : World} {p : Nat} {x : Im} {I : Nat → Prop} {A : Nat → Addr}
/-- how Sent and Hear end -/
def Ends14 (A : Nat → Addr) (own : Nat → Nat) (i : Nat) (w : World) (p : Nat) (x : Im) (k : Int) (e : Ending) (w' : World) : Prop :=
  ∃ v, e = .returned v ∧ Hid (Coded A v k) ∧ Aside (IdO own i w' p x ∧ Sn (fun k => k = i) own w own w')
theorem Ends14.quiet {k : Int} {v : Value} (h : IdO own i w p x) (hv : Coded A v k) (hk : Keeps Nowhere w w') : Ends14 A own i w p x k (.returned v) w' :=
  ⟨v, rfl, hv, ⟨h.quiet hk, Sn.same hk⟩⟩
def pty (c : Bool) : Int := if c then 1 else 0
theorem newI_ok (c : Bool) (n : Int) (w : World) (own : Nat → Nat) (i : Nat) (hp : Par w) (h1 : 0 ≤ n) (h2 : n ≤ 2147483647) :
    Calls Tryd.prog 8 #[.bool c, .int .i64 n] w fun e w' => ∃ p own', e = .returned (.tuple #[ptr p, .nilIface]) ∧ Aside (IdO own' i w' p (Im.new (pty c) n) ∧ w.heap.size ≤ p ∧ Sn (fun _ => False) own w own' w') := by
  have d0 : ∀ o, (w.alloc o).cell? ⟨1, 0, none⟩ = some (.int .i64 2) := fun o => (hp.later ((Keeps.refl Nowhere w).alloc o).bel).c0
  have d2 : ∀ o, (w.alloc o).cell? ⟨1, 2, none⟩ = some (.int .i64 1) := fun o => (hp.later ((Keeps.refl Nowhere w).alloc o).bel).c2
  clear hp
  have a1 : ¬ n < 0 := by omega
  have a2 : ¬ 2147483647 < n := by omega
  cases c
  · go_enter Tryd.func8, Tryd.ntmps8
    go_wp2
    go_ret2
    refine ⟨w.heap.size, rfl, give own w.heap.size i, ⟨⟨⟨?_, give_new (Nat.le_refl _)⟩, Im.new_ok (.inl rfl) h1 h2⟩, Nat.le_refl _, Sn.quiet ?_ i⟩⟩
    · exact Cells.new w _ _
    · exact (Keeps.refl _ _).alloc _
  · go_enter Tryd.func8, Tryd.ntmps8
    go_wp2
    go_ret2
    refine ⟨w.heap.size, rfl, give own w.heap.size i, ⟨⟨⟨?_, give_new (Nat.le_refl _)⟩, Im.new_ok (.inr rfl) h1 h2⟩, Nat.le_refl _, Sn.quiet ?_ i⟩⟩
    · exact Cells.new w _ _
    · exact (Keeps.refl _ _).alloc _
theorem newI_no (c : Bool) (n : Int) (w : World) (hs : Sents 82 codeVars A w) (h : n < 0 ∨ 2147483647 < n) :
    Calls Tryd.prog 8 #[.bool c, .int .i64 n] w fun e w' => e = .returned (.tuple #[.pointer none, .iface 82 (.pointer (some (A 1)))]) ∧ Aside (Keeps Nowhere w w') := by
  have hc := hs.cell 1 0 rfl
  clear hs
  rcases h with h | h
  · go_enter Tryd.func8, Tryd.ntmps8
    go_wp2
    go_quiet (fail)
    go_wp2
    go_ret2
    exact ⟨rfl, ⟨(Keeps.refl _ _).drewN _⟩⟩
  · have h0' : ¬ n < 0 := by omega
    go_enter Tryd.func8, Tryd.ntmps8
    go_wp2
    go_quiet (fail)
    go_wp2
    go_ret2
    exact ⟨rfl, ⟨(Keeps.refl _ _).drewN _⟩⟩
theorem left_k (h : IdO own i w p x) (hp : Par w) : Calls Tryd.prog 10 #[ptr p] w fun e w' => e = .returned (.int .i64 x.left) ∧ Aside (Keeps Nowhere w w') := by
  refine (left_at h hp).mono ?_
  rintro e w' ⟨rfl, m, rfl⟩
  exact ⟨rfl, ⟨(Keeps.refl _ _).drewN m⟩⟩
theorem known_k (h : IdO own i w p x) (id : Int) (h0 : 0 ≤ id) : Calls Tryd.prog 19 #[ptr p, .int .u32 id] w fun e w' => e = .returned (.bool (x.known id)) ∧ Aside (Keeps Nowhere w w') := by
  refine (known_at h id h0).mono ?_
  rintro e w' ⟨rfl, m, rfl⟩
  exact ⟨rfl, ⟨(Keeps.refl _ _).drewN m⟩⟩
theorem mine_k (h : IdO own i w p x) (id : Int) (h0 : 0 ≤ id) : Calls Tryd.prog 21 #[ptr p, .int .u32 id] w fun e w' => e = .returned (.bool (x.mine id)) ∧ Aside (Keeps Nowhere w w') := by
  refine (mine_at h id h0).mono ?_
  rintro e w' ⟨rfl, m, rfl⟩
  exact ⟨rfl, ⟨(Keeps.refl _ _).drewN m⟩⟩
theorem marks_k (h : IdO own i w p x) : Calls Tryd.prog 23 #[ptr p] w fun e w' => e = .returned (.tuple #[.int .u32 (x.mark x.o), .int .u32 (x.mark (1 - x.o))]) ∧ Aside (Keeps Nowhere w w') := by
  refine (marks_at h).mono ?_
  rintro e w' ⟨rfl, m, rfl⟩
  exact ⟨rfl, ⟨(Keeps.refl _ _).drewN m⟩⟩
theorem next_ok (h : IdO own i w p x) (hp : Par w) (hn : x.n ≤ 4294967295) :
    Calls Tryd.prog 11 #[ptr p] w fun e w' => e = .returned (.tuple #[.int .u32 x.n, .nilIface]) ∧ Aside (IdO own i w' p x.next ∧ Sn (fun k => k = i) own w own w') := by
  have L := Aside.mk (left_k h hp)
  have H := Aside.mk h
  have hl := Im.left_pos h.ok hn
  have n0 : 0 ≤ x.n := by have := h.ok.n1; have := h.ok.b1; have := h.ok.o01; omega
  clear h hp
  generalize hL : x.left = l at L hl
  clear hL
  go_enter Tryd.func11, Tryd.ntmps11
  go_upto_region 5 with (first | (go_at_call 10; refine L.it.mono ?_; rintro e w1 ⟨rfl, k1⟩) | fail)
  have H1 := Aside.mk (H.it.quiet k1.it)
  have c2 := H1.it.cell2
  have f2 := H1.it.at_.1.frozen 2
  go_wp2
  go_ret2
  exact ⟨rfl, ⟨⟨⟨H1.it.at_.1.setCell 2 (.int .i64 (x.n + 2)), H.it.at_.2⟩, H.it.ok.next hn⟩, fun _ _ => rfl, k1.it.any.setCell _ _ (fun _ => H.it.at_.2)⟩⟩
theorem next_no (h : IdO own i w p x) (hs : St14 A w) (hn : ¬ x.n ≤ 4294967295) :
    Calls Tryd.prog 11 #[ptr p] w fun e w' => e = .returned (.tuple #[.int .u32 0, .iface 82 (.pointer (some (A 31)))]) ∧ Aside (Keeps Nowhere w w') := by
  have L := Aside.mk (left_k h hs.par)
  rw [Im.left_zero h.ok hn] at L
  have HS := Aside.mk hs
  clear h hs
  go_enter Tryd.func11, Tryd.ntmps11
  go_upto_region 4 with (first | (go_at_call 10; refine L.it.mono ?_; rintro e w1 ⟨rfl, k1⟩) | fail)
  have hc := (HS.it.quiet k1.it).s.cell 31 3 rfl
  go_quiet (fail)
  go_wp2
  go_ret2
  exact ⟨rfl, ⟨k1.it.drewN _⟩⟩
theorem next_nil (hs : Sents 82 codeVars A w) :
    Calls Tryd.prog 11 #[.pointer none] w fun e w' => e = .returned (.tuple #[.int .u32 0, .iface 82 (.pointer (some (A 0)))]) ∧ Aside (Keeps Nowhere w w') := by
  have hc := hs.cell 0 2 rfl
  clear hs
  go_enter Tryd.func11, Tryd.ntmps11
  go_wp2
  go_quiet (fail)
  go_wp2
  go_ret2
  exact ⟨rfl, ⟨(Keeps.refl _ _).drewN _⟩⟩
theorem IdO.rise (h : IdO own i w p x) {id : Int} (h0 : 0 ≤ id) (h1 : id ≤ 4294967295) (hm : id % 2 = x.o → id < x.n) : (id % 2 = 0 → IdO own i (w.setCell ⟨p, 3, none⟩ (.int .u32 id)) p (x.rise id)) ∧ (id % 2 = 1 → IdO own i (w.setCell ⟨p, 4, none⟩ (.int .u32 id)) p (x.rise id)) := by
  have ok := h.ok.rise h0 h1 hm
  refine ⟨fun e => ?_, fun e => ?_⟩
  · have e2 : x.rise id = { x with m0 := id } := if_pos e
    rw [e2] at ok ⊢
    exact ⟨⟨h.at_.1.setCell 3 (.int .u32 id), h.at_.2⟩, ok⟩
  · have e2 : x.rise id = { x with m1 := id } := if_neg (by omega)
    rw [e2] at ok ⊢
    exact ⟨⟨h.at_.1.setCell 4 (.int .u32 id), h.at_.2⟩, ok⟩
theorem rise_known (h : IdO own i w p x) (hs : St14 A w) (id : Int) (h0 : 0 ≤ id) (hk : x.known id = true) :
    Calls Tryd.prog 29 #[ptr p, .int .u32 id] w fun e w' => Ends14 A own i w p x 19 e w' := by
  have K := Aside.mk (known_k h id h0)
  rw [hk] at K
  have H := Aside.mk h
  have HS := Aside.mk hs
  clear h hs hk
  go_enter Tryd.func29, Tryd.ntmps29
  go_upto_region 2 with (first | (go_at_call 19; refine K.it.mono ?_; rintro e w1 ⟨rfl, k1⟩) | fail)
  have hc := (HS.it.quiet k1.it).s.cell 18 20 rfl
  go_wp2
  go_ret
  exact Ends14.quiet H.it (.mk 18 19 (by decide) (by decide) rfl) k1.it
theorem rise_new (h : IdO own i w p x) (id : Int) (h0 : 0 ≤ id) (h1 : id ≤ 4294967295) (hm : id % 2 = x.o → id < x.n) (hk : x.known id = false) :
    Calls Tryd.prog 29 #[ptr p, .int .u32 id] w fun e w' => Ends14 A own i w p (x.rise id) 0 e w' := by
  have K := Aside.mk (known_k h id h0)
  rw [hk] at K
  have H := Aside.mk h
  have P := Aside.mk (fun w => parity_at id w h0)
  clear h hk
  have hp : id % 2 = 0 ∨ id % 2 = 1 := by omega
  have HM := Aside.mk hm
  clear hm
  rcases hp with hp | hp
  · rw [hp] at P
    have HP := Aside.mk hp
    clear hp
    go_enter Tryd.func29, Tryd.ntmps29
    go_upto_region 3 with (first | (go_at_call 19; refine K.it.mono ?_; rintro e w1 ⟨rfl, k1⟩) | fail)
    have H1 := Aside.mk (H.it.quiet k1.it)
    have c3 := H1.it.cell3
    have f3 := H1.it.at_.1.frozen 3
    have R := Aside.mk (H1.it.rise h0 h1 HM.it)
    go_region_with (first | (go_at_call 30; refine (P.it _).mono ?_; rintro e w' ⟨rfl, rfl⟩) | fail)
    all_goals go_wp2
    all_goals go_ret
    all_goals exact ⟨_, rfl, Coded.none, ⟨(R.it.1 HP.it).quiet (Keeps.refl _ _).drew, fun _ _ => rfl, (k1.it.any.setCell _ _ (fun _ => H.it.at_.2)).drew⟩⟩
  · rw [hp] at P
    have HP := Aside.mk hp
    clear hp
    go_enter Tryd.func29, Tryd.ntmps29
    go_upto_region 3 with (first | (go_at_call 19; refine K.it.mono ?_; rintro e w1 ⟨rfl, k1⟩) | fail)
    have H1 := Aside.mk (H.it.quiet k1.it)
    have c4 := H1.it.cell4
    have f4 := H1.it.at_.1.frozen 4
    have R := Aside.mk (H1.it.rise h0 h1 HM.it)
    go_region_with (first | (go_at_call 30; refine (P.it _).mono ?_; rintro e w' ⟨rfl, rfl⟩) | fail)
    all_goals go_wp2
    all_goals go_ret
    all_goals exact ⟨_, rfl, Coded.none, ⟨(R.it.2 HP.it).quiet (Keeps.refl _ _).drew, fun _ _ => rfl, (k1.it.any.setCell _ _ (fun _ => H.it.at_.2)).drew⟩⟩
theorem Ends14.behind {w1 : World} {y : Im} {k : Int} {e : Ending} (k1 : Keeps Nowhere w w1) (h : Ends14 A own i w1 p y k e w') : Ends14 A own i w p y k e w' := by
  obtain ⟨v, rfl, hv, X⟩ := h
  exact ⟨v, rfl, hv, ⟨X.it.1, (Sn.same k1).trans X.it.2⟩⟩
theorem sent_at (h : IdO own i w p x) (hs : St14 A w) (id : Int) (h0 : 0 ≤ id) (h1 : id ≤ 4294967295) :
    Calls Tryd.prog 16 #[ptr p, .int .u32 id] w fun e w' => Ends14 A own i w p (x.sent id) (x.sentE id) e w' := by
  have M := Aside.mk (mine_k h id h0)
  have H := Aside.mk h
  have HS := Aside.mk hs
  clear h hs
  by_cases hm : x.mine id = true
  · rw [hm] at M
    by_cases hg : x.b ≤ id ∧ id < x.n
    · by_cases hk : x.known id = true
      · have e1 : x.sentE id = 19 := by unfold Im.sentE; rw [if_pos hm, if_pos hg, if_pos hk]
        have e2 : x.sent id = x := by unfold Im.sent; rw [e1]; rfl
        rw [e1, e2]
        have HG := Aside.mk hg
        have HK := Aside.mk hk
        clear e1 e2 hg hk hm
        go_enter Tryd.func16, Tryd.ntmps16
        go_upto_region 5 with (first | (go_at_call 21; refine M.it.mono ?_; rintro e w1 ⟨rfl, k1⟩) | fail)
        have H1 := Aside.mk (H.it.quiet k1.it)
        have S1 := Aside.mk (HS.it.quiet k1.it)
        go_wp2_with (first | (go_at_call 28; refine (gave_yes H1.it id h0 h1 HG.it.1 HG.it.2).mono ?_; rintro e w2 ⟨rfl, rfl⟩) | (go_at_call 29; refine (rise_known H1.it S1.it id h0 HK.it).mono ?_; rintro e w3 ⟨v, rfl, hv, X⟩) | fail)
        go_ret
        exact Ends14.behind k1.it ⟨v, rfl, hv, X⟩
      · have e1 : x.sentE id = 0 := by unfold Im.sentE; rw [if_pos hm, if_pos hg, if_neg hk]
        have e2 : x.sent id = x.rise id := by unfold Im.sent; rw [e1]; rfl
        rw [e1, e2]
        have HG := Aside.mk hg
        have HK := Aside.mk (Bool.eq_false_iff.2 hk)
        clear e1 e2 hg hk hm
        go_enter Tryd.func16, Tryd.ntmps16
        go_upto_region 5 with (first | (go_at_call 21; refine M.it.mono ?_; rintro e w1 ⟨rfl, k1⟩) | fail)
        have H1 := Aside.mk (H.it.quiet k1.it)
        go_wp2_with (first | (go_at_call 28; refine (gave_yes H1.it id h0 h1 HG.it.1 HG.it.2).mono ?_; rintro e w2 ⟨rfl, rfl⟩) | (go_at_call 29; refine (rise_new (A := A) H1.it id h0 h1 (fun _ => HG.it.2) HK.it).mono ?_; rintro e w3 ⟨v, rfl, hv, X⟩) | fail)
        go_ret
        exact Ends14.behind k1.it ⟨v, rfl, hv, X⟩
    · have e1 : x.sentE id = 9 := by unfold Im.sentE; rw [if_pos hm, if_neg hg]
      have e2 : x.sent id = x := by unfold Im.sent; rw [e1]; rfl
      rw [e1, e2]
      have HG := Aside.mk hg
      clear e1 e2 hg hm
      go_enter Tryd.func16, Tryd.ntmps16
      go_upto_region 5 with (first | (go_at_call 21; refine M.it.mono ?_; rintro e w1 ⟨rfl, k1⟩) | fail)
      have H1 := Aside.mk (H.it.quiet k1.it)
      have hc := (HS.it.quiet k1.it).s.cell 8 5 rfl
      go_wp2_with (first | (go_at_call 28; refine (gave_no H1.it id h0 h1 HG.it).mono ?_; rintro e w2 ⟨rfl, rfl⟩) | fail)
      go_ret
      exact Ends14.quiet H.it (.mk 8 9 (by decide) (by decide) rfl) k1.it
  · have e1 : x.sentE id = 18 := by unfold Im.sentE; rw [if_neg hm]
    have e2 : x.sent id = x := by unfold Im.sent; rw [e1]; rfl
    rw [e1, e2]
    rw [Bool.eq_false_iff.2 hm] at M
    clear e1 e2 hm
    go_enter Tryd.func16, Tryd.ntmps16
    go_upto_region 4 with (first | (go_at_call 21; refine M.it.mono ?_; rintro e w1 ⟨rfl, k1⟩) | fail)
    have hc := (HS.it.quiet k1.it).s.cell 17 4 rfl
    go_wp2
    go_ret
    exact Ends14.quiet H.it (.mk 17 18 (by decide) (by decide) rfl) k1.it
theorem sent_nil (id : Int) (hs : Sents 82 codeVars A w) : Calls Tryd.prog 16 #[.pointer none, .int .u32 id] w fun e w' => e = .returned (.iface 82 (.pointer (some (A 0)))) ∧ w' = w := by
  have hc := hs.cell 0 2 rfl
  clear hs
  go_enter Tryd.func16, Tryd.ntmps16
  go_wp2
  go_ret
  exact ⟨rfl, rfl⟩
theorem hear_nil (id : Int) (hs : Sents 82 codeVars A w) : Calls Tryd.prog 18 #[.pointer none, .int .u32 id] w fun e w' => e = .returned (.iface 82 (.pointer (some (A 0)))) ∧ w' = w := by
  have hc := hs.cell 0 2 rfl
  clear hs
  go_enter Tryd.func18, Tryd.ntmps18
  go_wp2
  go_ret
  exact ⟨rfl, rfl⟩
theorem hear_at (h : IdO own i w p x) (hs : St14 A w) (id : Int) (h0 : 0 ≤ id) (h1 : id ≤ 4294967295) :
    Calls Tryd.prog 18 #[ptr p, .int .u32 id] w fun e w' => Ends14 A own i w p (x.hear id) (x.hearE id) e w' := by
  have M := Aside.mk (mine_k h id h0)
  have H := Aside.mk h
  have HS := Aside.mk hs
  by_cases hn : id = 0
  · subst hn
    have e1 : x.hearE 0 = 14 := rfl
    have e2 : x.hear 0 = x := by unfold Im.hear; rw [e1]; rfl
    rw [e1, e2]
    have hc := hs.s.cell 13 6 rfl
    clear e1 e2 h hs
    go_enter Tryd.func18, Tryd.ntmps18
    go_wp2
    go_ret
    exact Ends14.quiet H.it (.mk 13 14 (by decide) (by decide) rfl) (Keeps.refl _ _)
  · clear h hs
    by_cases hm : x.mine id = true
    · have e1 : x.hearE id = 18 := by unfold Im.hearE; rw [if_neg hn, if_pos hm]
      have e2 : x.hear id = x := by unfold Im.hear; rw [e1]; rfl
      rw [e1, e2]
      rw [hm] at M
      clear e1 e2 hm
      go_enter Tryd.func18, Tryd.ntmps18
      go_upto_region 6 with (first | (go_at_call 21; refine M.it.mono ?_; rintro e w1 ⟨rfl, k1⟩) | fail)
      have hc := (HS.it.quiet k1.it).s.cell 17 4 rfl
      go_wp2
      go_ret
      exact Ends14.quiet H.it (.mk 17 18 (by decide) (by decide) rfl) k1.it
    · have hm' := Bool.eq_false_iff.2 hm
      rw [hm'] at M
      have HM := Aside.mk (show id % 2 = x.o → id < x.n from fun hp => absurd (Im.mine_iff.2 ⟨hn, hp⟩) hm)
      by_cases hk : x.known id = true
      · have e1 : x.hearE id = 19 := by unfold Im.hearE; rw [if_neg hn, if_neg hm, if_pos hk]
        have e2 : x.hear id = x := by unfold Im.hear; rw [e1]; rfl
        rw [e1, e2]
        have HK := Aside.mk hk
        clear e1 e2 hk hm hm'
        go_enter Tryd.func18, Tryd.ntmps18
        go_upto_region 7 with (first | (go_at_call 21; refine M.it.mono ?_; rintro e w1 ⟨rfl, k1⟩) | fail)
        have H1 := Aside.mk (H.it.quiet k1.it)
        have S1 := Aside.mk (HS.it.quiet k1.it)
        go_wp2_with (first | (go_at_call 29; refine (rise_known H1.it S1.it id h0 HK.it).mono ?_; rintro e w3 ⟨v, rfl, hv, X⟩) | fail)
        go_ret
        exact Ends14.behind k1.it ⟨v, rfl, hv, X⟩
      · have e1 : x.hearE id = 0 := by unfold Im.hearE; rw [if_neg hn, if_neg hm, if_neg hk]
        have e2 : x.hear id = x.rise id := by unfold Im.hear; rw [e1]; rfl
        rw [e1, e2]
        have HK := Aside.mk (Bool.eq_false_iff.2 hk)
        clear e1 e2 hk hm hm'
        go_enter Tryd.func18, Tryd.ntmps18
        go_upto_region 7 with (first | (go_at_call 21; refine M.it.mono ?_; rintro e w1 ⟨rfl, k1⟩) | fail)
        have H1 := Aside.mk (H.it.quiet k1.it)
        go_wp2_with (first | (go_at_call 29; refine (rise_new (A := A) H1.it id h0 h1 HM.it HK.it).mono ?_; rintro e w3 ⟨v, rfl, hv, X⟩) | fail)
        go_ret
        exact Ends14.behind k1.it ⟨v, rfl, hv, X⟩
end
end Go.Proofs.YthfedcebbnlmaaaDoor
