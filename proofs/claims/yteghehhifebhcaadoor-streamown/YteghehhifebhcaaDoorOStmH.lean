/-
  package stream: Arrive, Grant.
-/
import Derived.Test.YteghehhifebhcaaDoorOStmG
namespace Go.Proofs.YteghehhifebhcaaDoor
open Go.RowKit

section
variable {own own' : Nat → Nat} {i : Nat} {w w' w0 : World} {p : Nat} {A : Nat → Addr} {u : Int} {d : Dm} {cu : Bool} {sx cx ux rx : Value} {I : Nat → Prop}
theorem arrive_nil10 (src : Value) (fin : Bool) (hs : SentO A w) : Calls Tryd.prog 25 #[.pointer none, src, .bool fin] w fun e w' => ∃ v, e = .returned v ∧ Hid (Coded A v 1) ∧ w' = w := by
  have r1 := hs.cell 0 3 rfl
  clear hs
  go_enter Tryd.func25, Tryd.ntmps25
  go_wp2
  go_ret
  exact ⟨_, rfl, Coded.mk 0 1 (by decide) (by decide) rfl, rfl⟩
theorem grant_nil10 (n : Int) (fin : Bool) (hs : SentO A w) : Calls Tryd.prog 20 #[.pointer none, .int .u32 n, .bool fin] w fun e w' => ∃ v, e = .returned v ∧ Hid (Coded A v 1) ∧ w' = w := by
  have r1 := hs.cell 0 3 rfl
  clear hs
  go_enter Tryd.func20, Tryd.ntmps20
  go_wp2
  go_ret
  exact ⟨_, rfl, Coded.mk 0 1 (by decide) (by decide) rfl, rfl⟩
theorem deaf_no (h : d.deaf = false) : d.drop = false ∧ d.cut = false ∧ d.heard = false := by
  unfold Dm.deaf at h
  revert h
  cases d.drop <;> cases d.cut <;> cases d.heard <;> simp
theorem off_no (h : d.off = false) : d.drop = false ∧ d.cut = false ∧ d.last = false := by
  unfold Dm.off at h
  revert h
  cases d.drop <;> cases d.cut <;> cases d.last <;> simp
theorem arrive_at10 (h : StmI own i w p d) (hg : Gs A w0 own w) (i1 : 1 ≤ i) (sq : Option Addr) (n c : Nat) (xs : List Int) (hn : xs.length = n) (fin : Bool) (hx : ReadsOff (fun k => Five i (own k)) w (.slice sq n c) (bv xs)) :
    Calls Tryd.prog 25 #[ptr p, .slice sq n c, .bool fin] w fun e w' => ∃ v, e = .returned v ∧ Hid (Coded A v (d.arE n)) ∧ Aside (Left5 own i w p (d.arD xs fin) w') := by
  have H := Aside.mk h
  have h9 := hg.st
  have G0 := Aside.mk hg
  clear hg
  obtain ⟨ok, cu, u, sx, cx, ux, rx, h, hu⟩ := h
  have M := Aside.mk (hears_at h h9.tab)
  have c11 : w.cell? ⟨p, 11, none⟩ = some rx := h.box.1.cell 11
  rcases (Bool.eq_false_or_eq_true d.deaf).symm with hd | hd
  · rw [hd] at M
    have W := Aside.mk (arrive_wn h hd n (by omega) h9.s)
    obtain ⟨d1, d2, d3⟩ := deaf_no hd
    have hu' := hu hd
    have sm := ok.sum hd
    have oo := ok.o0
    have ll := ok.l0
    have w2 := ok.win2
    by_cases hc : d.left < n
    · have e : d.arE n = 16 := by unfold Dm.arE; rw [if_neg (by rw [hd]; decide), if_pos hc]
      have e2 : d.arD xs fin = d := by unfold Dm.arD; rw [if_neg (by rw [hd]; decide), if_pos (by rw [hn]; exact hc)]
      rw [e, e2]
      simp only [if_pos hc] at W
      clear e e2 d1 d2 d3 hc hd h9
      have K := Aside.mk (And.intro ok hu)
      clear h hu ok H hu' sm oo ll w2
      go_enter Tryd.func25, Tryd.ntmps25
      go_upto_region 6 with (first | (go_at_call 44; refine M.it.mono ?_; rintro e w' ⟨rfl, rfl⟩) | (go_at_call 56; refine W.it.mono ?_; rintro e w2 ⟨v, rfl, hv, Y⟩) | fail)
      obtain ⟨a, rfl⟩ := Coded.pos hv (by decide)
      go_wp2
      go_ret
      exact ⟨_, rfl, hv, ⟨own, ⟨K.it.1, cu, u, _, _, _, _, Y.it.1, K.it.2⟩, Y.it.2.five (by omega) (by omega)⟩⟩
    · have e : d.arE n = 0 := by unfold Dm.arE; rw [if_neg (by rw [hd]; decide), if_neg hc]
      have okk := Dm.arD_ok ok xs fin
      rw [e]
      simp only [if_neg hc] at W
      have c10 : w.cell? ⟨p, 10, none⟩ = some ux := h.box.1.cell 10
      have hx' : Aside (∀ w', Keeps (fun k => own k = i + 4) w w' → ReadsOff (fun k => own k = i + 3) w' (.slice sq n c) (bv xs)) := by
        refine ⟨fun w' k => ?_⟩
        refine (hx.later (k.mono (fun b e _ => ?_))).mono (fun b e _ => .inl ?_)
        · show Five i (own b)
          rw [e]; exact ⟨by omega, by omega⟩
        · show Five i (own b)
          rw [e]; exact ⟨by omega, by omega⟩
      have PU : Aside (∀ w', StmO own i w' p { d with left := d.left - n } cu (u + n) sx cx ux rx → Sn (fun k => k = i + 4) own w own w' → Calls Tryd.prog 41 #[ux, .slice sq n c] w' fun e w'' => ∃ own' n', e = .returned (.int .i64 n') ∧
          Aside (StmO own' i w'' p { d with unread := d.unread ++ xs, left := d.left - n } cu (u + n) sx cx ux rx ∧ Sn (fun k => k = i + 3) own w' own' w'')) :=
        ⟨fun w' hS s => push_un hS d1 _ xs (hx'.it w' s.keeps) (by omega) (by show d.unread.length + xs.length ≤ d.win; omega)⟩
      have hun : ((d.unread ++ xs).length : Int) = u + n := by rw [List.length_append]; omega
      rcases (Bool.eq_false_or_eq_true fin).symm with rfl | rfl
      · have e2 : d.arD xs false = { d with unread := d.unread ++ xs, left := d.left - n } := by unfold Dm.arD; rw [if_neg (by rw [hd]; decide), if_neg (by rw [hn]; exact hc), hn]; rfl
        rw [e2] at okk ⊢
        have K := Aside.mk okk
        have HU := Aside.mk hun
        clear e e2 d1 d2 d3 hc hd h9 h hu ok H hu' sm oo ll w2 okk hx hx' hun
        go_enter Tryd.func25, Tryd.ntmps25
        go_upto_region 6 with (first | (go_at_call 44; refine M.it.mono ?_; rintro e w' ⟨rfl, rfl⟩) | (go_at_call 56; refine W.it.mono ?_; rintro e w2 ⟨v, rfl, hv, Y⟩) | fail)
        obtain rfl := Coded.zero hv
        have c10' : w2.cell? ⟨p, 10, none⟩ = some ux := Y.it.1.box.1.cell 10
        go_wp2_with (first | (go_at_call 41; refine (PU.it _ Y.it.1 Y.it.2).mono ?_; rintro e w3 ⟨own3, n3, rfl, Z⟩) | fail)
        go_ret
        exact ⟨_, rfl, Coded.none, ⟨own3, ⟨K.it, cu, _, _, _, _, _, Z.it.1, fun _ => HU.it.symm⟩, (Y.it.2.five (by omega) (by omega)).trans (Z.it.2.five (by omega) (by omega))⟩⟩
      · have e2 : d.arD xs true = Dm.ends { d with unread := d.unread ++ xs, left := d.left - n } := by unfold Dm.arD; rw [if_neg (by rw [hd]; decide), if_neg (by rw [hn]; exact hc), hn]; rfl
        rw [e2] at okk ⊢
        have K := Aside.mk okk
        have D1 := Aside.mk d1
        have D3 := Aside.mk d3
        clear e e2 d1 d2 d3 hc hd h9 h hu ok H hu' sm oo ll w2 okk hx hx' hun
        go_enter Tryd.func25, Tryd.ntmps25
        go_upto_region 6 with (first | (go_at_call 44; refine M.it.mono ?_; rintro e w' ⟨rfl, rfl⟩) | (go_at_call 56; refine W.it.mono ?_; rintro e w2 ⟨v, rfl, hv, Y⟩) | fail)
        obtain rfl := Coded.zero hv
        have c10' : w2.cell? ⟨p, 10, none⟩ = some ux := Y.it.1.box.1.cell 10
        go_upto_region 9 with (first | (go_at_call 41; refine (PU.it _ Y.it.1 Y.it.2).mono ?_; rintro e w3 ⟨own3, n3, rfl, Z⟩) | fail)
        have MH := Aside.mk (meet_heard Z.it.1 ((G0.it.sn Y.it.2 (by omega)).sn Z.it.2 (by omega)).st D1.it D3.it)
        go_wp2_with (first | (go_at_call 33; refine MH.it.mono ?_; rintro e w4 ⟨rfl, X⟩) | fail)
        go_ret
        exact ⟨_, rfl, Coded.none, ⟨own3, ⟨K.it, cu, _, _, _, _, _, X.it.1, fun e => by simp [Dm.ends, Dm.deaf] at e⟩, ((Y.it.2.five (by omega) (by omega)).trans (Z.it.2.five (by omega) (by omega))).trans (X.it.2.five (by omega) (by omega))⟩⟩
  · rw [hd] at M
    have e : d.arE n = 0 := by unfold Dm.arE; rw [if_pos hd]
    have e2 : d.arD xs fin = d := by unfold Dm.arD; rw [if_pos hd]
    rw [e, e2]
    clear e e2 h hu hd ok h9
    go_enter Tryd.func25, Tryd.ntmps25
    go_wp2_with (first | (go_at_call 44; refine M.it.mono ?_; rintro e w' ⟨rfl, rfl⟩) | fail)
    go_ret
    exact ⟨_, rfl, Coded.none, ⟨Left5.same H.it⟩⟩
theorem grD_off (ho : d.off = true) (n : Int) (fin : Bool) : d.grE n = 0 ∧ d.grD n fin = if fin && !d.deaf then d.ends else d := by
  unfold Dm.grE Dm.grD Dm.grC Dm.grE Dm.deaf
  rw [if_pos ho, if_pos ho]
  refine ⟨rfl, ?_⟩
  unfold Dm.off at ho
  revert ho
  rcases d with ⟨id, win, stage, frame, mine, acc, staged, closing, last, credit, unread, left, owed, heard, told, drop, cut⟩
  cases fin <;> cases drop <;> cases cut <;> cases heard <;> simp
theorem grD_on (ho : d.off = false) (n : Int) (fin : Bool) (hc : ¬ (d.win : Int) < d.credit + n) : d.grE n = 0 ∧ d.grD n fin = if fin && !d.deaf then Dm.ends { d with credit := d.credit + n } else { d with credit := d.credit + n } := by
  obtain ⟨a, b, c⟩ := off_no ho
  unfold Dm.grE Dm.grD Dm.grC Dm.grE Dm.deaf
  simp [ho, if_neg hc, a, b]
theorem grant_end (h : StmI own i w p d) (hg : Gs A w0 own w) (hd : d.deaf = false) : Calls Tryd.prog 33 #[ptr p, .int .i64 5] w fun x w' => x = .returned (.tuple #[]) ∧ Aside (Left5 own i w p d.ends w') := by
  obtain ⟨ok, cu, u, sx, cx, ux, rx, h, hu⟩ := h
  obtain ⟨d1, d2, d3⟩ := deaf_no hd
  refine (meet_heard h hg.st d1 d3).mono ?_
  rintro x w' ⟨rfl, X⟩
  exact ⟨rfl, ⟨own, ⟨Dm.ends_ok ok, cu, _, _, _, _, _, X.it.1, fun e => by simp [Dm.ends, Dm.deaf] at e⟩, X.it.2.five (by omega) (by omega)⟩⟩
end
end Go.Proofs.YteghehhifebhcaaDoor
