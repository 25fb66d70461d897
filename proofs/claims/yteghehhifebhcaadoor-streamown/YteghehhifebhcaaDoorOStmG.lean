/-
  package stream: Write, Read, Arrive, Grant.
-/
import Derived.Test.YteghehhifebhcaaDoorOStmF
namespace Go.Proofs.YteghehhifebhcaaDoor
open Go.RowKit

section
variable {own own' : Nat → Nat} {i : Nat} {w w' w0 : World} {p : Nat} {A : Nat → Addr} {u : Int} {d : Dm} {cu : Bool} {sx cx ux rx : Value} {I : Nat → Prop}
theorem write_nil (src : Value) (hs : SentO A w) : Calls Tryd.prog 17 #[.pointer none, src] w fun e w' => ∃ v, e = .returned (.tuple #[.int .i64 0, v]) ∧ Hid (Coded A v 1) ∧ w' = w := by
  have M := Aside.mk (shut_nil hs)
  clear hs
  go_enter Tryd.func17, Tryd.ntmps17
  go_upto_region 2 with (first | (go_at_call 40; refine M.it.mono ?_; rintro e w' ⟨v, rfl, hv, rfl⟩) | fail)
  obtain ⟨a, rfl⟩ := Coded.pos hv (by decide)
  go_wp2
  go_ret2
  exact ⟨_, rfl, hv, rfl⟩
theorem write_at (h : StmI own i w p d) (hs : SentO A w) (src : Value) (xs : List Int) (hx : ReadsOff (fun k => Five i (own k)) w src (bv xs)) (hl : xs.length ≤ 9223372036854775807) :
    Calls Tryd.prog 17 #[ptr p, src] w fun e w' => ∃ v, e = .returned (.tuple #[.int .i64 (d.wrN xs : Nat), v]) ∧ Hid (Coded A v d.wrE) ∧ Aside (Left5 own i w p (d.wrD xs) w') := by
  have H := Aside.mk h
  obtain ⟨ok, cu, u, sx, cx, ux, rx, h, hu⟩ := h
  have M := Aside.mk (shut_at h hs)
  clear hs
  rcases wr_cases d with ⟨e1, e2⟩ | ⟨e1, e2, e3, e4, e5⟩
  · rw [show d.wrD xs = d from if_pos e2, show d.wrN xs = 0 from if_pos e2]
    clear e2 h hu
    go_enter Tryd.func17, Tryd.ntmps17
    go_upto_region 2 with (first | (go_at_call 40; refine M.it.mono ?_; rintro e w' ⟨v, rfl, hv, rfl⟩) | fail)
    obtain ⟨a, rfl⟩ := Coded.pos hv e1
    go_wp2
    go_ret2
    exact ⟨_, rfl, hv, ⟨Left5.same H.it⟩⟩
  · have e : d.wrD xs = { d with staged := d.staged ++ xs.take (d.stage - d.staged.length) } := if_neg (by rw [e2]; decide)
    have e' : d.wrN xs = min xs.length (d.stage - d.staged.length) := if_neg (by rw [e2]; decide)
    have okk := Dm.wrD_ok ok xs
    rw [e] at okk ⊢
    rw [e', e1]
    rw [e1] at M
    have ho : d.off = false := by
      have l := ok.lst
      unfold Dm.off
      rw [e3, e4]
      rw [e5] at l
      cases hl : d.last
      · rfl
      · rw [hl] at l; simp at l
    have c8 : w.cell? ⟨p, 8, none⟩ = some sx := h.box.1.cell 8
    have D := Aside.mk (push_st h ho src xs (hx.mono (fun k e _ => by rw [e]; exact ⟨by omega, by omega⟩)) hl)
    have K := Aside.mk (And.intro okk hu)
    generalize min xs.length (d.stage - d.staged.length) = n at D ⊢
    clear e e' e1 e2 e3 e4 e5 h hu ok okk H hx hl ho
    go_enter Tryd.func17, Tryd.ntmps17
    go_upto_region 2 with (first | (go_at_call 40; refine M.it.mono ?_; rintro e w' ⟨v, rfl, hv, rfl⟩) | fail)
    obtain rfl := Coded.zero hv
    go_wp2_with (first | (go_at_call 41; refine D.it.mono ?_; rintro e w2 ⟨own2, rfl, Y⟩) | fail)
    go_ret2
    exact ⟨_, rfl, Coded.none, ⟨own2, ⟨K.it.1, cu, u, _, _, _, _, Y.it.1, K.it.2⟩, Y.it.2.five (by omega) (by omega)⟩⟩

/-- tellEnd: nothing is unread -/
theorem tell_end (h : StmI own i w p d) (h9 : St9 A w) (hd : d.drop = false) : Calls Tryd.prog 54 #[ptr p] w fun e w' => ∃ v, e = .returned v ∧ Hid (Coded A v (if d.heard then 25 else if d.cut then 27 else 0)) ∧
    Aside (Left5 own i w p (if d.heard then { d with told := true } else d) w') := by
  have H := Aside.mk h
  obtain ⟨ok, cu, u, sx, cx, ux, rx, h, hu⟩ := h
  have M := Aside.mk (hears_any d.state h9.tab)
  rw [mayCome_state, hd] at M
  simp only [Bool.not_false, Bool.true_and] at M
  have c3 : w.cell? ⟨p, 3, none⟩ = some (.int .i64 d.state) := h.box.1.cell 3
  have c6 : w.cell? ⟨p, 6, none⟩ = some (.bool d.told) := h.box.1.cell 6
  have c7 : w.cell? ⟨p, 7, none⟩ = some (.bool d.cut) := by rw [← h.pt.cutc hd]; exact h.box.1.cell 7
  have f6 := h.box.1.frozen 6
  have r1 := h9.s.cell 24 25 rfl
  have r2 := h9.s.cell 26 26 rfl
  rcases (Bool.eq_false_or_eq_true d.heard).symm with e | e
  · rw [e] at M
    simp only [e, Bool.false_eq_true, if_false]
    clear h hu h9 f6 e hd
    generalize d.state = s at c3 M
    rcases (Bool.eq_false_or_eq_true d.cut).symm with e | e
    · simp only [e, Bool.false_eq_true, if_false]
      rw [e] at c7
      clear e
      go_enter Tryd.func54, Tryd.ntmps54
      go_wp2_with (first | (go_at_call 70; refine M.it.mono ?_; rintro e w' ⟨rfl, rfl⟩) | fail)
      go_ret
      exact ⟨_, rfl, Coded.none, ⟨Left5.same H.it⟩⟩
    · simp only [e, if_true]
      rw [e] at c7
      clear e
      go_enter Tryd.func54, Tryd.ntmps54
      go_wp2_with (first | (go_at_call 70; refine M.it.mono ?_; rintro e w' ⟨rfl, rfl⟩) | fail)
      go_ret
      exact ⟨_, rfl, Coded.mk 26 27 (by decide) (by decide) rfl, ⟨Left5.same H.it⟩⟩
  · rw [e] at M
    rw [if_pos e, if_pos e]
    have X : Aside (Left5 own i w p { d with told := true } (w.setCell ⟨p, 6, none⟩ (.bool true))) := by
      have hb : BoxTo p (stmCells { d with told := true } cu sx cx ux rx) w (w.setCell ⟨p, 6, none⟩ (.bool true)) := ⟨h.box.1.setCell 6 (.bool true), (Keeps.refl (fun k => k = p) _).setCell _ _ (fun _ => rfl)⟩
      exact ⟨own, ⟨{ ok with off := ok.off, gon := ok.gon, lst := ok.lst, sum := ok.sum }, cu, u, sx, cx, ux, rx, StmO.put hb h.box.2 ⟨h.pt.cutc, h.pt.stg, h.pt.crd, h.pt.unr, h.pt.wnd⟩, hu⟩, (hb.sn h.box.2).five (Nat.le_refl _) (by omega)⟩
    clear h hu h9 ok hd H e
    generalize d.state = s at c3 M
    go_enter Tryd.func54, Tryd.ntmps54
    go_wp2_with (first | (go_at_call 70; refine M.it.mono ?_; rintro e w' ⟨rfl, rfl⟩) | fail)
    go_ret
    exact ⟨_, rfl, Coded.mk 24 25 (by decide) (by decide) rfl, X⟩
/-- owe: n bytes of u were read -/
theorem owe_st (h : StmO own i w p d cu u sx cx ux rx) (h9 : St9 A w) (n : Int) (h0 : 0 ≤ n) (h1 : d.deaf = false → n ≤ u) : Calls Tryd.prog 55 #[ptr p, .int .i64 n] w fun e w' =>
    e = .returned (.int .u32 (if d.deaf then 0 else if d.owed + n < ((d.win : Int) + 1) / 2 then 0 else d.owed + n)) ∧
      Aside (StmO own i w' p (if d.deaf then d else { d with left := d.left + (if d.owed + n < ((d.win : Int) + 1) / 2 then 0 else d.owed + n), owed := if d.owed + n < ((d.win : Int) + 1) / 2 then d.owed + n else 0 }) cu (if d.deaf then u else u - n) sx cx ux rx ∧ Sn (fun k => k = i + 4) own w own w') := by
  have M := Aside.mk (hears_at h h9.tab)
  have c11 : w.cell? ⟨p, 11, none⟩ = some rx := h.box.1.cell 11
  rcases (Bool.eq_false_or_eq_true d.deaf).symm with e | e
  · rw [e] at M
    have D := Aside.mk (read_wn h e n h0 (h1 e) h9.s)
    simp only [e, Bool.false_eq_true, if_false]
    clear h h9 e h1
    generalize (if d.owed + n < ((d.win : Int) + 1) / 2 then (0 : Int) else d.owed + n) = g at D ⊢
    generalize (if d.owed + n < ((d.win : Int) + 1) / 2 then d.owed + n else (0 : Int)) = o at D ⊢
    go_enter Tryd.func55, Tryd.ntmps55
    go_wp2_with (first | (go_at_call 44; refine M.it.mono ?_; rintro e w' ⟨rfl, rfl⟩) | (go_at_call 76; refine D.it.mono ?_; rintro e w2 ⟨v, rfl, Y⟩) | fail)
    go_ret
    exact ⟨rfl, Y⟩
  · rw [e] at M
    have H := Aside.mk h
    simp only [e, if_true]
    clear h h9 e h1
    go_enter Tryd.func55, Tryd.ntmps55
    go_wp2_with (first | (go_at_call 44; refine M.it.mono ?_; rintro e w' ⟨rfl, rfl⟩) | fail)
    go_ret
    exact ⟨rfl, ⟨H.it, Sn.refl _ _ _⟩⟩
theorem read_nil10 (n : Int) (hs : SentO A w) : Calls Tryd.prog 24 #[.pointer none, .int .i64 n] w fun e w' => ∃ v, e = .returned (.tuple #[.slice none 0 0, .int .u32 0, v]) ∧ Hid (Coded A v 1) ∧ ∃ m, w' = w.drewN m := by
  have r1 := hs.cell 0 3 rfl
  clear hs
  go_enter Tryd.func24, Tryd.ntmps24
  go_wp2
  go_quiet (fail)
  go_wp2
  go_ret3
  exact ⟨_, rfl, Coded.mk 0 1 (by decide) (by decide) rfl, _, rfl⟩
/-- what a Read leaves: the bytes are r's -/
def Left5r (own : Nat → Nat) (i : Nat) (w : World) (p : Nat) (d : Dm) (r : Nat) (v : Value) (xs : List Int) (w' : World) : Prop := ∃ own', StmI own' i w' p d ∧ RowO own' r w' 5 v (bv xs) ∧ Sn (Five i) own w own' w'
theorem row_none (own : Nat → Nat) (r : Nat) (w : World) : RowO own r w 5 (.slice none 0 0) (bv []) := ⟨.inl ⟨rfl, rfl⟩, fun k hk => by simp [Value.ownBlock] at hk⟩
theorem Left5r.same {r : Nat} (h : StmI own i w p d) (m : Nat) : Left5r own i w p d r (.slice none 0 0) [] (w.drewN m) := ⟨own, h.quiet ((Keeps.refl _ _).drewN m), row_none _ _ _, Sn.same ((Keeps.refl _ _).drewN m)⟩
theorem rd_none (ok : d.Ok) {n : Int} (h : n ≤ 0 ∨ d.unread = []) (h25 : d.rdE n ≠ 25) : d.rdG n = 0 ∧ d.rdD n = d ∧ d.unread.take (d.rdK n) = [] := by
  have k : d.rdK n = 0 := by
    unfold Dm.rdK
    rcases h with h | h
    · omega
    · rw [h]; simp
  have o := ok.ow
  have g : d.rdG n = 0 := by
    unfold Dm.rdG
    rw [k]
    split
    · rfl
    · rw [if_pos (by simpa using o)]
  have q : d.rdO n = d.owed := by
    unfold Dm.rdO
    rw [k]
    split
    · rfl
    · rw [if_pos (by simpa using o)]
      simp
  refine ⟨g, ?_, by rw [k]; rfl⟩
  unfold Dm.rdD
  rw [if_neg h25, g, q, k, Int.add_zero]
  rfl
theorem read_at10 (h : StmI own i w p d) (hg : Gs A w0 own w) (i1 : 1 ≤ i) (n : Int) (r : Nat) (hr : ¬ Five i r) :
    Calls Tryd.prog 24 #[ptr p, .int .i64 n] w fun e w' => ∃ sq m v, e = .returned (.tuple #[.slice sq m m, .int .u32 (d.rdG n), v]) ∧ Aside (m = (d.unread.take (d.rdK n)).length) ∧ Hid (Coded A v (d.rdE n)) ∧ Aside (Left5r own i w p (d.rdD n) r (.slice sq m m) (d.unread.take (d.rdK n)) w') := by
  have H := Aside.mk h
  have h9 := hg.st
  have G0 := Aside.mk hg
  clear hg
  have HT := Aside.mk (fun hd => tell_end h h9 hd)
  obtain ⟨ok, cu, u, sx, cx, ux, rx, h, hu⟩ := h
  have M := Aside.mk (wasReset_at h)
  have L := Aside.mk (un_len h)
  have r1 := h9.s.cell 1 0 rfl
  have r2 := h9.s.cell 25 4 rfl
  have c10 : w.cell? ⟨p, 10, none⟩ = some ux := h.box.1.cell 10
  by_cases n0 : n < 0
  · have e : d.rdE n = 2 := if_pos n0
    obtain ⟨g1, g2, g3⟩ := rd_none ok (n := n) (.inl (by omega)) (by rw [e]; decide)
    rw [g1, g2, g3, e]
    clear g1 g2 g3 e h hu ok h9 HT
    go_enter Tryd.func24, Tryd.ntmps24
    go_wp2
    go_quiet (fail)
    go_wp2
    go_ret3
    exact ⟨_, _, _, rfl, ⟨rfl⟩, Coded.mk 1 2 (by decide) (by decide) rfl, ⟨Left5r.same H.it _⟩⟩
  rcases (Bool.eq_false_or_eq_true d.drop).symm with hd | hd
  · rw [hd] at M
    by_cases n1 : n = 0
    · subst n1
      have e : d.rdE 0 = 0 := by unfold Dm.rdE; rw [if_neg (by decide), hd]; rfl
      obtain ⟨g1, g2, g3⟩ := rd_none ok (n := 0) (.inl (by omega)) (by rw [e]; decide)
      rw [g1, g2, g3, e]
      clear g1 g2 g3 e h hu ok h9 HT hd
      go_enter Tryd.func24, Tryd.ntmps24
      go_wp2_with (first | (go_at_call 53; refine M.it.mono ?_; rintro e w' ⟨rfl, rfl⟩) | fail)
      go_ret3
      exact ⟨_, _, _, rfl, ⟨rfl⟩, Coded.none, ⟨Left5r.same H.it 0⟩⟩
    by_cases u0 : d.unread = []
    · have e : d.rdE n = if d.heard then 25 else if d.cut then 27 else 0 := by unfold Dm.rdE; rw [if_neg n0, hd, if_neg n1, if_pos u0]; rfl
      have T := Aside.mk (HT.it hd)
      rw [← e] at T
      have X : Aside (d.rdG n = 0 ∧ d.rdD n = (if d.heard then { d with told := true } else d) ∧ d.unread.take (d.rdK n) = []) := by
        have k : d.rdK n = 0 := by unfold Dm.rdK; rw [u0]; simp
        have o := ok.ow
        have g : d.rdG n = 0 := by
          unfold Dm.rdG
          rw [k]
          split
          · rfl
          · rw [if_pos (by simpa using o)]
        refine ⟨g, ?_, by rw [k]; rfl⟩
        rcases (Bool.eq_false_or_eq_true d.heard).symm with hh | hh
        · have h25 : d.rdE n ≠ 25 := by rw [e, hh]; cases d.cut <;> decide
          rw [if_neg (by rw [hh]; decide)]
          exact (rd_none ok (.inr u0) h25).2.1
        · unfold Dm.rdD
          rw [if_pos (by rw [e, hh]; rfl), if_pos hh]
      have L0 : Aside (Calls Tryd.prog 46 #[ux] w fun e w' => e = .returned (.int .i64 0) ∧ w' = w) := ⟨by have := L.it; rw [u0] at this; exact this⟩
      rw [X.it.1, X.it.2.1, X.it.2.2]
      generalize d.rdE n = z at T ⊢
      generalize (if d.heard = true then { d with told := true } else d) = d2 at T ⊢
      clear e X h hu ok h9 HT hd u0 H L
      go_enter Tryd.func24, Tryd.ntmps24
      go_wp2_with (first | (go_at_call 53; refine M.it.mono ?_; rintro e w' ⟨rfl, rfl⟩) | (go_at_call 46; refine L0.it.mono ?_; rintro e w' ⟨rfl, rfl⟩) | (go_at_call 54; refine T.it.mono ?_; rintro e w2 ⟨v, rfl, hv, Y⟩) | fail)
      go_ret3
      obtain ⟨own2, a, b⟩ := Y.it
      exact ⟨_, _, _, rfl, ⟨rfl⟩, hv, ⟨own2, a, row_none _ _ _, b⟩⟩
    · have e : d.rdE n = 0 := by unfold Dm.rdE; rw [if_neg n0, hd, if_neg n1, if_neg u0]; rfl
      rw [e]
      have hl : 0 < d.unread.length := by
        rcases Nat.eq_zero_or_pos d.unread.length with x | x
        · exact absurd (List.length_eq_zero_iff.1 x) u0
        · exact x
      have okk := Dm.rdD_ok ok n
      have hun := h.pt.unr
      have P := Aside.mk (pop_ring (r := r) hun n)
      have un := ok.un
      have w2 := ok.win2
      have ek : min n.toNat d.unread.length = d.rdK n := rfl
      rw [ek] at P
      have et : d.unread.take n.toNat = d.unread.take (d.rdK n) := by
        unfold Dm.rdK
        rcases Nat.le_total n.toNat d.unread.length with x | x
        · rw [Nat.min_eq_left x]
        · rw [Nat.min_eq_right x, List.take_of_length_le x, List.take_length]
      have ed : d.unread.drop n.toNat = d.unread.drop (d.rdK n) := by
        unfold Dm.rdK
        rcases Nat.le_total n.toNat d.unread.length with x | x
        · rw [Nat.min_eq_left x]
        · rw [Nat.min_eq_right x, List.drop_eq_nil_of_le x, List.drop_length]
      rw [et, ed] at P
      have kl : d.rdK n ≤ d.unread.length := Nat.min_le_right _ _
      have em : (d.unread.take (d.rdK n)).length = d.rdK n := by rw [List.length_take]; omega
      have S5 := Aside.mk h
      have HU := Aside.mk hu
      have O9 := Aside.mk h9
      have Ok := Aside.mk okk
      have EM := Aside.mk em
      have KL := Aside.mk kl
      have HE := Aside.mk e
      have hlI : ¬ ((d.unread.length : Nat) : Int) = 0 := by omega
      have hl0 : Aside (0 < d.unread.length) := ⟨hl⟩
      obtain ⟨LN, hLN⟩ : ∃ LN, LN = d.unread.length := ⟨_, rfl⟩
      rw [← hLN] at L hlI
      have hLN' := Aside.mk hLN
      clear e h hu ok okk h9 HT hun u0 H em kl et ed ek hl un w2 hLN
      have OW : Aside (∀ (own2 : Nat → Nat) W, StmO own2 i W p { d with unread := d.unread.drop (d.rdK n) } cu u sx cx ux rx → St9 A W → Calls Tryd.prog 55 #[ptr p, .int .i64 (d.rdK n)] W fun e w' => e = .returned (.int .u32 (d.rdG n)) ∧ Aside (StmI own2 i w' p (d.rdD n) ∧ Sn (fun k => k = i + 4) own2 W own2 w')) := by
        refine ⟨fun own2 W hS h9 => ?_⟩
        refine (owe_st hS h9 (d.rdK n) (by omega) (fun e => ?_)).mono ?_
        · have := HU.it e
          have := KL.it
          omega
        rintro e w' ⟨rfl, Y⟩
        refine ⟨rfl, ⟨⟨Ok.it, cu, if d.deaf then u else u - d.rdK n, sx, cx, ux, rx, ?_, ?_⟩, Y.it.2⟩⟩
        · have hY := Y.it.1
          have dd : Dm.deaf { d with unread := d.unread.drop (d.rdK n) } = d.deaf := rfl
          rw [dd] at hY
          have : d.rdD n = (if d.deaf then { d with unread := d.unread.drop (d.rdK n) } else { d with unread := d.unread.drop (d.rdK n), left := d.left + (if d.owed + d.rdK n < ((d.win : Int) + 1) / 2 then 0 else d.owed + d.rdK n), owed := if d.owed + d.rdK n < ((d.win : Int) + 1) / 2 then d.owed + d.rdK n else 0 }) := by
            unfold Dm.rdD
            rw [if_neg (by rw [HE.it]; decide)]
            unfold Dm.rdG Dm.rdO
            cases d.deaf <;> simp
          rw [this]
          exact hY
        · intro e
          have e' : d.deaf = false := by
            have : (d.rdD n).deaf = d.deaf := by unfold Dm.rdD; rw [if_neg (by rw [HE.it]; decide)]; rfl
            rw [← this]; exact e
          have hu := HU.it e'
          have := KL.it
          rw [e', if_neg (by decide), hu]
          have : (d.rdD n).unread = d.unread.drop (d.rdK n) := by unfold Dm.rdD; rw [if_neg (by rw [HE.it]; decide)]
          rw [this, List.length_drop]
          omega
      generalize d.rdG n = g at OW ⊢
      generalize d.rdD n = d2 at OW ⊢
      generalize d.unread.take (d.rdK n) = tk at P EM ⊢
      generalize d.rdK n = k at P EM OW ⊢
      clear Ok KL HE HU hl0 hLN'
      go_enter Tryd.func24, Tryd.ntmps24
      go_upto_region 12 with (first | (go_at_call 53; refine M.it.mono ?_; rintro e w' ⟨rfl, rfl⟩) | (go_at_call 46; refine L.it.mono ?_; rintro e w' ⟨rfl, rfl⟩) | (go_at_call 48; refine P.it.mono ?_; rintro e w2 ⟨sq, own2, rfl, Y⟩) | fail)
      have S6 := Aside.mk (S5.it.unread Y.it.2.2 Y.it.2.1)
      have OW2 := Aside.mk (OW.it own2 w2 S6.it (G0.it.sn Y.it.2.2 (by omega)).st)
      go_wp2_with (first | (go_at_call 55; refine OW2.it.mono ?_; rintro e w3 ⟨rfl, Z⟩) | fail)
      go_ret3
      refine ⟨_, _, _, rfl, ⟨EM.it.symm⟩, Coded.none, ⟨own2, Z.it.1, rowO_sn Y.it.1 Z.it.2 (fun e => hr (by rw [e]; exact ⟨by omega, by omega⟩)), (Y.it.2.2.five (by omega) (by omega)).trans (Z.it.2.five (by omega) (by omega))⟩⟩
  · rw [hd] at M
    have e : d.rdE n = 26 := by unfold Dm.rdE; rw [if_neg n0, hd]; rfl
    have u0 := ok.gon hd
    obtain ⟨g1, g2, g3⟩ := rd_none ok (n := n) (.inr u0) (by rw [e]; decide)
    rw [g1, g2, g3, e]
    clear g1 g2 g3 e h hu ok h9 HT hd u0
    go_enter Tryd.func24, Tryd.ntmps24
    go_wp2_with (first | (go_at_call 53; refine M.it.mono ?_; rintro e w' ⟨rfl, rfl⟩) | fail)
    go_quiet (fail)
    go_wp2
    go_ret3
    exact ⟨_, _, _, rfl, ⟨rfl⟩, Coded.mk 25 26 (by decide) (by decide) rfl, ⟨Left5r.same H.it _⟩⟩
end
end Go.Proofs.YteghehhifebhcaaDoor
