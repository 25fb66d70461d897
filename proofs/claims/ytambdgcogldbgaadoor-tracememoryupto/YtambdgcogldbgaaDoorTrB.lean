/-
  package trace: Wrote, Closed
-/
import Derived.Test.YtambdgcogldbgaaDoorTrA
import Derived.BigRegion
namespace Go.Proofs.YtambdgcogldbgaaDoor
open Go.RowKit Go.Maps

variable {own own' : Nat → Nat} {i p T mb : Nat} {w w' w1 : World} {L : Hs} {I : Nat → Prop} {k : Int} {b : Nat} {v : Value} {r : Rc} {F : Int → Option (Nat × Value)} {A : Nat → Addr}

theorem OfA.keeps (h : OfA w w1 F k b v r) (hk : Keeps (fun x => x = b ∨ v.ownBlock = some x ∨ x = mb) w1 w') : Keeps (fun x => x = mb ∨ ∃ b0 v0, F k = some (b0, v0) ∧ (x = b0 ∨ v0.ownBlock = some x)) w w' := by
  refine (h.kp.mono (fun _ e _ => e.elim)).next hk (fun x hx hlt => ?_)
  rcases hx with e | e | e
  · rcases h.hb with h1 | ⟨_, h1⟩
    · exact .inr ⟨b, v, h1, .inl e⟩
    · omega
  · exact .inr ⟨b, v, h.hv x e, .inr e⟩
  · exact .inl e
theorem OfA.map (h : OfA w w1 F k b v r) (hI : TrI w p mb L F) {w4 : World} (K14 : Keeps (fun x => x = b ∨ v.ownBlock = some x) w1 w4) : MapT w4 mb L.length (fun k => (F k).map (·.1)) := by
  have h1 := hI.m.later h.kp (fun x => x)
  refine h1.later K14 (fun e => ?_)
  obtain ⟨ns, g, hc, hr, _⟩ := h.r
  rcases e with e | e
  · exact cells_map_ne hc h1 e
  · exact row_map_ne hr h1 e
theorem TrO.fin {T' : Nat} {r' : Rc} {v' : Value} (h : TrI w p mb L F) (hp : own p = i) (hmb : own mb = i) (hob : ∀ k b v, F k = some (b, v) → own b = i ∧ ∀ g, v.ownBlock = some g → own g = i) (ok : TOk T L) (ok' : TOk T' (tset L k r')) (hn : L.length + 1 ≤ 2147483648)
    (o : OfA w w1 F k b v r) {w4 w5 : World} (K14 : Keeps (fun x => x = b ∨ v.ownBlock = some x) w1 w4) (K45 : Keeps (fun x => x = mb) w4 w5) (hm : MapT w5 mb (if (F k).isSome then L.length else L.length + 1) (setT (fun k => (F k).map (·.1)) k b))
    (hr : RecA w4 b v' r') (hv : ∀ g, v'.ownBlock = some g → v.ownBlock = some g ∨ w1.heap.size ≤ g) : TrO (give own w.heap.size i) i w5 p T' (tset L k r') ∧ Sn (fun x => x = i) own w (give own w.heap.size i) w5 := by
  have m4 := o.map h K14
  have hr5 : RecA w5 b v' r' := by
    obtain ⟨ns, g, hc, hw, _⟩ := id hr
    exact hr.later K45 (fun e => cells_map_ne hc m4 e.symm) (fun g hg e => row_map_ne hw m4 (by rw [hg, e]))
  refine TrO.put h hp hmb hob ok ok' hn (o.keeps ((K14.mono (fun x e _ => e.elim .inl (fun e => .inr (.inl e)))).trans (K45.mono (fun x e _ => .inr (.inr e))))) (fun _ e => e) hr5 ?_ ?_ hm
  · rcases o.hb with h1 | h1
    · exact .inl ⟨v, h1⟩
    · exact .inr h1
  · intro g hg
    rcases hv g hg with e | e
    · exact .inl ⟨b, v, o.hv g e, e⟩
    · exact .inr (Nat.le_trans o.kp.size e)
theorem hm_of {w5 : World} {n : Nat} {G : Int → Option (Nat × Value)} (h : MapT w5 mb (if ((fun k => (G k).map (·.1)) k).isSome then n else n + 1) (setT (fun k => (G k).map (·.1)) k b)) : MapT w5 mb (if (G k).isSome then n else n + 1) (setT (fun k => (G k).map (·.1)) k b) := by
  simpa only [Option.isSome_map] using h

theorem wrote_nil (hs : Sents 140 codeVars A w) (k : Int) (sv : Value) : Calls Tryd.prog 10 #[.pointer none, .int .i64 k, sv] w fun e w' => e = .returned (.iface 140 (.pointer (some (A 0)))) ∧ w' = w := by
  have hc := hs.cell 0 0 rfl
  clear hs
  go_enter Tryd.func10, Tryd.ntmps10
  go_wp2
  go_ret
  exact ⟨rfl, rfl⟩
theorem closed_nil (hs : Sents 140 codeVars A w) (k : Int) : Calls Tryd.prog 23 #[.pointer none, .int .i64 k] w fun e w' => e = .returned (.iface 140 (.pointer (some (A 0)))) ∧ w' = w := by
  have hc := hs.cell 0 0 rfl
  clear hs
  go_enter Tryd.func23, Tryd.ntmps23
  go_wp2
  go_ret
  exact ⟨rfl, rfl⟩
set_option maxHeartbeats 1000000 in
theorem wrote_at {sv : Value} {ms : List Int} (h : TrO own i w p T L) (hk : Zw k) (hs : Sents 140 codeVars A w) (hr : Rd w sv ms) (hby : ∀ n ∈ ms, 0 ≤ n ∧ n ≤ 255) (hT : T + ms.length ≤ 70368744177664) (hn : L.length + 1 ≤ 2147483648) :
    Calls Tryd.prog 10 #[ptr p, .int .i64 k, sv] w fun e w' => ∃ ev own', e = .returned ev ∧ Hid (Coded A ev (wroteC L k)) ∧ Aside (TrO own' i w' p (T + ms.length) (wroteL L k ms) ∧ Sn (fun x => x = i) own w own' w') := by
  have ok := h.ok
  have HO := Aside.mk h
  obtain ⟨mb, F, hI, hp, hmb, hob⟩ := h.it
  have OF := Aside.mk (of_any hI hk)
  have HS := Aside.mk hs
  have HI := Aside.mk hI
  have HB := Aside.mk (And.intro hp (And.intro hmb hob))
  have pc := Aside.mk hI.pc
  have g := ok.got k
  obtain ⟨sa, sc, rfl⟩ := hr.shape
  obtain ⟨m, hm⟩ : ∃ m, ms.length = m := ⟨_, rfl⟩
  have HM := Aside.mk hm
  have HR := Aside.mk hr
  have HBY := Aside.mk hby
  have HK := Aside.mk hk
  rw [hm] at HR hT ⊢
  have HG := Aside.mk g
  have OK := Aside.mk ok
  unfold wroteC wroteL
  have hlen := g.len
  cases hcl : (got L k).cl with
  | true =>
    simp only [if_true]
    have HCL := Aside.mk hcl
    clear h hs hI hp hmb hob ok hr g hm hby hk hcl hlen
    go_enter Tryd.func10, Tryd.ntmps10
    go_upto_region 4 with (first | (go_at_call 27; refine OF.it.mono ?_; rintro e w1 ⟨b, v, rfl, O1⟩) | fail)
    obtain ⟨ns, gn, hc, _⟩ := O1.it.r
    have c2 : w1.cell? ⟨b, 2, none⟩ = some (.bool true) := by rw [hc.cell, ← HCL.it]; rfl
    have s7 := (HS.it.later O1.it.kp.bel).cell 23 1 rfl
    clear hc
    go_wp2_with fail
    go_ret
    exact ⟨_, own, rfl, Coded.mk 23 24 (by decide) (by decide) rfl, ⟨(HO.it.quiet O1.it.kp).mono (Nat.le_add_right _ _), Sn.same O1.it.kp⟩⟩
  | false =>
    simp only [Bool.false_eq_true, if_false]
    have HCL := Aside.mk hcl
    clear h hs hI hp hmb hob ok hr g hm hby hk hcl
    go_enter Tryd.func10, Tryd.ntmps10
    go_upto_region 4 with (first | (go_at_call 27; refine OF.it.mono ?_; rintro e w1 ⟨b, v, rfl, O1⟩) | fail)
    obtain ⟨ns, gn, hc, hrow, hgn, hdr, hnl⟩ := O1.it.r
    obtain ⟨q, c, hv⟩ := OwnB.shape (B := 0) hrow
    subst hv
    have HNL := Aside.mk (And.intro hgn (And.intro hdr hnl))
    have c2 : w1.cell? ⟨b, 2, none⟩ = some (.bool false) := by rw [hc.cell, ← HCL.it]; rfl
    have c4 : w1.cell? ⟨b, 4, none⟩ = some (.slice q ns.length c) := by rw [hc.cell]; rfl
    have HC := Aside.mk hc
    have HROW := Aside.mk hrow
    have hrd1 := Aside.mk (HR.it.later O1.it.kp.bel)
    have hbig : Aside (ns.length + ms.length ≤ 140737488355328) := ⟨by have := HM.it; omega⟩
    have hbr := Aside.mk (cells_row_ne hc hrow (by decide))
    clear hc hrow hgn hdr hnl
    go_upto_region 7 with (first | (at_builtin; refine wpList_appendO rfl _ _ rfl _ _ ns ms HROW.it hrd1.it hbig.it rfl rfl ?_; intro q' l' c' w2 O2 K2 B2; have D2 := Aside.mk (HC.it.later K2.it hbr.it); have e4 : w2.cell? ⟨b, 4, none⟩ = some (.slice q ns.length c) := (by rw [D2.it.cell]; rfl); have f4 := D2.it.frozen 4) | fail)
    have D3 := Aside.mk (D2.it.setCell 4 (.slice q' l' c'))
    have hbr2 := Aside.mk (cells_row_ne D2.it O2.it (by decide))
    have K3 : Aside (Keeps (fun x => x = b) w2 (w2.setCell ⟨b, 4, none⟩ (.slice q' l' c'))) := ⟨(Keeps.refl _ _).setCell _ _ (fun _ => rfl)⟩
    generalize w2.setCell ⟨b, 4, none⟩ (.slice q' l' c') = w3 at D3 K3 ⊢
    clear c2 c4 e4 f4
    obtain ⟨wl, hwl⟩ : ∃ wl, (got L k).wr.length = wl := ⟨_, rfl⟩
    have c0 : w3.cell? ⟨b, 0, none⟩ = some (.int .i64 (wl : Int)) := by rw [D3.it.cell, ← hwl]; rfl
    have f0 := D3.it.frozen 0
    have HWL := Aside.mk hwl
    have w0 : (wl : Int) + (m : Int) ≤ 9223372036854775807 := by omega
    have w00 : (0 : Int) ≤ (wl : Int) + (m : Int) := by omega
    clear hwl
    go_upto_region 8 with fail
    have D4 := Aside.mk (D3.it.setCell 0 (.int .i64 ((wl : Int) + (m : Int))))
    have K4 : Aside (Keeps (fun x => x = b) w3 (w3.setCell ⟨b, 0, none⟩ (.int .i64 ((wl : Int) + (m : Int))))) := ⟨(Keeps.refl _ _).setCell _ _ (fun _ => rfl)⟩
    generalize w3.setCell ⟨b, 0, none⟩ (.int .i64 ((wl : Int) + (m : Int))) = w4 at D4 K4 ⊢
    clear c0 f0
    have K14 : Aside (Keeps (fun x => x = b ∨ (Value.slice q ns.length c).ownBlock = some x) w1 w4) := ⟨((K2.it.mono (fun _ e _ => .inr e)).trans (K3.it.mono (fun _ e _ => .inl e))).trans (K4.it.mono (fun _ e _ => .inl e))⟩
    have M4 := O1.it.map HI.it K14.it
    obtain ⟨w5, hup5, M5, K5⟩ := M4.store (by unfold maxLen; omega) HK.it b
    have hpb : p ≠ b := hist_rec_ne (pc.it.later O1.it.kp (fun x => x)) HC.it
    have hpv : (Value.slice q ns.length c).ownBlock ≠ some p := cells_row_ne (pc.it.later O1.it.kp (fun x => x)) HROW.it (by decide)
    have p4 : w4.cell? ⟨p, 0, none⟩ = some (.map (some mb)) := by rw [((pc.it.later O1.it.kp (fun x => x)).later K14.it (fun e => e.elim hpb hpv)).cell]; rfl
    have HM5 := Aside.mk (hm_of M5)
    have HK5 := Aside.mk K5
    clear M4 M5 K5
    go_wp2_with fail
    go_ret
    refine ⟨_, give own w.heap.size i, rfl, Coded.none, ⟨?_⟩⟩
    have hR4 : RecA w4 b (.slice q' l' c') { got L k with wr := (got L k).wr ++ ms } := by
      refine ⟨ns ++ ms, gn, ?_, ?_, ?_, ?_, ?_⟩
      · have := D4.it
        have e : (((got L k).wr ++ ms).length : Int) = (wl : Int) + (m : Int) := by rw [List.length_append, HWL.it, HM.it]; rfl
        simp only [rcel, e]
        exact this
      · exact owns_later (owns_later O2.it K3.it (fun x hx e => hbr2.it (by rw [hx, e]))) K4.it (fun x hx e => hbr2.it (by rw [hx, e]))
      · rw [List.length_append]; have := HNL.it.1; omega
      · rw [List.drop_append_of_le_length HNL.it.1, HNL.it.2.1]
        simp only [Rc.rest]
        rw [List.drop_append_of_le_length HG.it.rd]
      · simp only [List.length_append]; have := HNL.it.2.2; omega
    have okw := OK.it.wrote HK.it HBY.it
    unfold wroteL at okw
    rw [HCL.it] at okw
    simp only [Bool.false_eq_true, if_false] at okw
    rw [HM.it] at okw
    exact TrO.fin HI.it HB.it.1 HB.it.2.1 HB.it.2.2 OK.it okw hn O1.it K14.it HK5.it HM5.it hR4 B2.it
set_option maxHeartbeats 1000000 in
theorem closed_at (h : TrO own i w p T L) (hk : Zw k) (hs : Sents 140 codeVars A w) (hn : L.length + 1 ≤ 2147483648) :
    Calls Tryd.prog 23 #[ptr p, .int .i64 k] w fun e w' => ∃ ev own', e = .returned ev ∧ Hid (Coded A ev (wroteC L k)) ∧ Aside (TrO own' i w' p T (closedL L k) ∧ Sn (fun x => x = i) own w own' w') := by
  have ok := h.ok
  have HO := Aside.mk h
  obtain ⟨mb, F, hI, hp, hmb, hob⟩ := h.it
  have OF := Aside.mk (of_any hI hk)
  have HS := Aside.mk hs
  have HI := Aside.mk hI
  have HB := Aside.mk (And.intro hp (And.intro hmb hob))
  have pc := Aside.mk hI.pc
  have HK := Aside.mk hk
  have OK := Aside.mk ok
  unfold wroteC closedL
  cases hcl : (got L k).cl with
  | true =>
    simp only [if_true]
    have HCL := Aside.mk hcl
    clear h hs hI hp hmb hob ok hk hcl
    go_enter Tryd.func23, Tryd.ntmps23
    go_upto_region 4 with (first | (go_at_call 27; refine OF.it.mono ?_; rintro e w1 ⟨b, v, rfl, O1⟩) | fail)
    obtain ⟨ns, gn, hc, _⟩ := O1.it.r
    have c2 : w1.cell? ⟨b, 2, none⟩ = some (.bool true) := by rw [hc.cell, ← HCL.it]; rfl
    have s7 := (HS.it.later O1.it.kp.bel).cell 23 1 rfl
    clear hc
    go_wp2_with fail
    go_ret
    exact ⟨_, own, rfl, Coded.mk 23 24 (by decide) (by decide) rfl, ⟨HO.it.quiet O1.it.kp, Sn.same O1.it.kp⟩⟩
  | false =>
    simp only [Bool.false_eq_true, if_false]
    have HCL := Aside.mk hcl
    clear h hs hI hp hmb hob ok hk hcl
    go_enter Tryd.func23, Tryd.ntmps23
    go_upto_region 4 with (first | (go_at_call 27; refine OF.it.mono ?_; rintro e w1 ⟨b, v, rfl, O1⟩) | fail)
    obtain ⟨ns, gn, hc, hrow, hgn, hdr, hnl⟩ := O1.it.r
    have HNL := Aside.mk (And.intro hgn (And.intro hdr hnl))
    have c2 : w1.cell? ⟨b, 2, none⟩ = some (.bool false) := by rw [hc.cell, ← HCL.it]; rfl
    have f2 := hc.frozen 2
    have HC := Aside.mk hc
    have HROW := Aside.mk hrow
    have hbr := Aside.mk (cells_row_ne hc hrow (by decide))
    clear hc hrow hgn hdr hnl
    go_upto_region 7 with fail
    have D4 := Aside.mk (HC.it.setCell 2 (.bool true))
    have K4 : Aside (Keeps (fun x => x = b) w1 (w1.setCell ⟨b, 2, none⟩ (.bool true))) := ⟨(Keeps.refl _ _).setCell _ _ (fun _ => rfl)⟩
    generalize w1.setCell ⟨b, 2, none⟩ (.bool true) = w4 at D4 K4 ⊢
    clear c2 f2
    have K14 : Aside (Keeps (fun x => x = b ∨ v.ownBlock = some x) w1 w4) := ⟨K4.it.mono (fun _ e _ => .inl e)⟩
    have M4 := O1.it.map HI.it K14.it
    obtain ⟨w5, hup5, M5, K5⟩ := M4.store (by unfold maxLen; omega) HK.it b
    have hpb : p ≠ b := hist_rec_ne (pc.it.later O1.it.kp (fun x => x)) HC.it
    have hpv : v.ownBlock ≠ some p := cells_row_ne (pc.it.later O1.it.kp (fun x => x)) HROW.it (by decide)
    have p4 : w4.cell? ⟨p, 0, none⟩ = some (.map (some mb)) := by rw [((pc.it.later O1.it.kp (fun x => x)).later K14.it (fun e => e.elim hpb hpv)).cell]; rfl
    have HM5 := Aside.mk (hm_of M5)
    have HK5 := Aside.mk K5
    clear M4 M5 K5
    go_wp2_with fail
    go_ret
    refine ⟨_, give own w.heap.size i, rfl, Coded.none, ⟨?_⟩⟩
    have hR4 : RecA w4 b v { got L k with cl := true } :=
      ⟨ns, gn, D4.it, owns_later HROW.it K4.it (fun x hx e => hbr.it (by rw [hx, e])), HNL.it.1, HNL.it.2.1, HNL.it.2.2⟩
    have okw := OK.it.closed HK.it
    unfold closedL at okw
    rw [HCL.it] at okw
    simp only [Bool.false_eq_true, if_false] at okw
    exact TrO.fin HI.it HB.it.1 HB.it.2.1 HB.it.2.2 OK.it okw hn O1.it K14.it HK5.it HM5.it hR4 (fun g hg => .inl hg)
end Go.Proofs.YtambdgcogldbgaaDoor
