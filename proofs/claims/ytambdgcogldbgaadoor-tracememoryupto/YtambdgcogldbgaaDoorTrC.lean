/-
  package trace: Ended, Past
-/
import Derived.Test.YtambdgcogldbgaaDoorTrB
namespace Go.Proofs.YtambdgcogldbgaaDoor
open Go.RowKit Go.Maps

variable {own own' : Nat → Nat} {i p T mb : Nat} {w w' w1 : World} {L : Hs} {I : Nat → Prop} {k : Int} {b : Nat} {v : Value} {r : Rc} {F : Int → Option (Nat × Value)} {A : Nat → Addr}

theorem ended_nil (hs : Sents 140 codeVars A w) (k : Int) : Calls Tryd.prog 25 #[.pointer none, .int .i64 k] w fun e w' => e = .returned (.iface 140 (.pointer (some (A 0)))) ∧ w' = w := by
  have hc := hs.cell 0 0 rfl
  clear hs
  go_enter Tryd.func25, Tryd.ntmps25
  go_wp2
  go_ret
  exact ⟨rfl, rfl⟩
theorem gave_nil (hs : Sents 140 codeVars A w) (k : Int) (sv : Value) : Calls Tryd.prog 12 #[.pointer none, .int .i64 k, sv] w fun e w' => e = .returned (.iface 140 (.pointer (some (A 0)))) ∧ w' = w := by
  have hc := hs.cell 0 0 rfl
  clear hs
  go_enter Tryd.func12, Tryd.ntmps12
  go_wp2
  go_ret
  exact ⟨rfl, rfl⟩
set_option maxHeartbeats 1000000 in
theorem ended_at (h : TrO own i w p T L) (hk : Zw k) (hs : Sents 140 codeVars A w) (hn : L.length + 1 ≤ 2147483648) :
    Calls Tryd.prog 25 #[ptr p, .int .i64 k] w fun e w' => ∃ ev own', e = .returned ev ∧ Hid (Coded A ev (endedC L k)) ∧ Aside (TrO own' i w' p T (endedL L k) ∧ Sn (fun x => x = i) own w own' w') := by
  have ok := h.ok
  have HO := Aside.mk h
  obtain ⟨mb, F, hI, hp, hmb, hob⟩ := h.it
  have OF := Aside.mk (of_any hI hk)
  have HS := Aside.mk hs
  have HI := Aside.mk hI
  have HB := Aside.mk (And.intro hp (And.intro hmb hob))
  have pc := Aside.mk hI.pc
  have HK := Aside.mk hk
  have OK := Aside.mk ok
  have HG := Aside.mk (ok.got k)
  unfold endedC endedL endedB
  cases hcl : (got L k).cl with
  | false =>
    simp only [Bool.false_and, Bool.false_eq_true, if_false]
    have HCL := Aside.mk hcl
    clear h hs hI hp hmb hob ok hk hcl
    go_enter Tryd.func25, Tryd.ntmps25
    go_upto_region 4 with (first | (go_at_call 27; refine OF.it.mono ?_; rintro e w1 ⟨b, v, rfl, O1⟩) | fail)
    obtain ⟨ns, gn, hc, _⟩ := O1.it.r
    have c2 : w1.cell? ⟨b, 2, none⟩ = some (.bool false) := by rw [hc.cell, ← HCL.it]; rfl
    have s7 := (HS.it.later O1.it.kp.bel).cell 38 2 rfl
    clear hc
    go_wp2_with fail
    go_ret
    exact ⟨_, own, rfl, Coded.mk 38 39 (by decide) (by decide) rfl, ⟨HO.it.quiet O1.it.kp, Sn.same O1.it.kp⟩⟩
  | true =>
    simp only [Bool.true_and, decide_eq_true_eq]
    have HCL := Aside.mk hcl
    have RL := Aside.mk (Rc.rest_len (got L k))
    have hrd := HG.it.rd
    obtain ⟨n, hnn⟩ : ∃ n, (got L k).rest.length = n := ⟨_, rfl⟩
    have HN := Aside.mk hnn
    have hnb : n ≤ T := by have := RL.it; have := HG.it.len; omega
    have HNB := Aside.mk hnb
    by_cases he : (got L k).rd = (got L k).wr.length
    · have hn0 : n = 0 := by have := RL.it; omega
      subst hn0
      simp only [he, if_true]
      have HE := Aside.mk he
      clear h hs hI hp hmb hob ok hk hcl he hrd hnn hnb
      go_enter Tryd.func25, Tryd.ntmps25
      go_upto_region 4 with (first | (go_at_call 27; refine OF.it.mono ?_; rintro e w1 ⟨b, v, rfl, O1⟩) | fail)
      have RS := Aside.mk (rest_at O1.it.r)
      rw [HN.it] at RS
      obtain ⟨ns, gn, hc, hrow, hgn, hdr, hnl⟩ := O1.it.r
      have HNL := Aside.mk (And.intro hgn (And.intro hdr hnl))
      have c2 : w1.cell? ⟨b, 2, none⟩ = some (.bool true) := by rw [hc.cell, ← HCL.it]; rfl
      have HC := Aside.mk hc
      have HROW := Aside.mk hrow
      have hbr := Aside.mk (cells_row_ne hc hrow (by decide))
      clear hc hrow hgn hdr hnl
      go_upto_region 6 with (first | (go_at_call 29; refine RS.it.mono ?_; rintro e w2 ⟨q2, c2', rfl, R2, K2, _⟩) | fail)
      have D2 := Aside.mk (HC.it.later K2.it (fun x => x))
      have e3 : ∃ en, w2.cell? ⟨b, 3, none⟩ = some (.bool en) := ⟨_, by rw [D2.it.cell]; rfl⟩
      obtain ⟨en, e3⟩ := e3
      have f3 := D2.it.frozen 3
      go_upto_region 7 with fail
      have D4 := Aside.mk (D2.it.setCell 3 (.bool true))
      have K4 : Aside (Keeps (fun x => x = b) w2 (w2.setCell ⟨b, 3, none⟩ (.bool true))) := ⟨(Keeps.refl _ _).setCell _ _ (fun _ => rfl)⟩
      generalize w2.setCell ⟨b, 3, none⟩ (.bool true) = w4 at D4 K4 ⊢
      clear c2 e3 f3
      have K14 : Aside (Keeps (fun x => x = b ∨ v.ownBlock = some x) w1 w4) := ⟨(K2.it.mono (fun _ e _ => e.elim)).trans (K4.it.mono (fun _ e _ => .inl e))⟩
      go_wp2_with fail
      go_ret
      refine ⟨_, give own w.heap.size i, rfl, Coded.none, ⟨?_⟩⟩
      have hkn : F k = some (b, v) := by
        rcases O1.it.hb with e | ⟨e, _⟩
        · exact e
        · exfalso
          have hd := HI.it.dom k
          rw [e] at hd
          have hcl := HCL.it
          unfold got at hcl
          cases hl : tget L k with
          | none => rw [hl] at hcl; cases hcl
          | some r => rw [hl] at hd; cases hd
      have hR4 : RecA w4 b v { got L k with en := true } :=
        ⟨ns, gn, D4.it, owns_later (owns_later HROW.it K2.it (fun _ _ x => x)) K4.it (fun x hx e => hbr.it (by rw [hx, e])), HNL.it.1, HNL.it.2.1, HNL.it.2.2⟩
      have okw := OK.it.ended HK.it
      unfold endedL endedB at okw
      rw [HCL.it, HE.it] at okw
      simp only [Bool.true_and, decide_true, if_true] at okw
      have M4 := O1.it.map HI.it K14.it
      have M5 : MapT w4 mb (if (F k).isSome then L.length else L.length + 1) (setT (fun k => (F k).map (·.1)) k b) := by
        rw [hkn]
        simp only [Option.isSome_some, if_true]
        refine M4.eq (fun z _ => ?_)
        unfold setT
        split
        · rename_i e; rw [e, hkn]; rfl
        · rfl
      have := TrO.fin HI.it HB.it.1 HB.it.2.1 HB.it.2.2 OK.it okw hn O1.it K14.it (Keeps.refl _ _) M5 hR4 (fun g hg => .inl hg)
      rw [HE.it] at this
      exact this
    · have hn0 : 0 < n := by have := RL.it; omega
      simp only [he, if_false]
      have hn1 : (0 : Int) < (n : Int) := by omega
      clear h hs hI hp hmb hob ok hk hcl he hrd hnn hn0
      go_enter Tryd.func25, Tryd.ntmps25
      go_upto_region 4 with (first | (go_at_call 27; refine OF.it.mono ?_; rintro e w1 ⟨b, v, rfl, O1⟩) | fail)
      have RS := Aside.mk (rest_at O1.it.r)
      rw [HN.it] at RS
      obtain ⟨ns, gn, hc, _⟩ := O1.it.r
      have c2 : w1.cell? ⟨b, 2, none⟩ = some (.bool true) := by rw [hc.cell, ← HCL.it]; rfl
      clear hc
      go_wp2_with (first | (go_at_call 29; refine RS.it.mono ?_; rintro e w2 ⟨q2, c2', rfl, R2, K2, _⟩; have s7 := (HS.it.later (O1.it.kp.trans K2.it).bel).cell 38 2 rfl) | fail)
      go_ret
      exact ⟨_, own, rfl, Coded.mk 38 39 (by decide) (by decide) rfl, ⟨HO.it.quiet (O1.it.kp.trans K2.it), Sn.same (O1.it.kp.trans K2.it)⟩⟩
abbrev pastV (r : Rc) : Value := .agg #[.int .i64 ((r.wr.length : Nat) : Int), .int .i64 ((r.rd : Nat) : Int), .bool r.cl, .bool r.en]
set_option maxHeartbeats 1000000 in
theorem past_raw {hv M : Value} {x : Option Nat} {lk : Bool} (P : ∀ W, Keeps Nowhere w W → Calls Tryd.prog 32 #[hv] W fun e w' => e = .returned M ∧ w' = W)
    (K : ∀ W, Keeps Nowhere w W → (Instr.lookup 58 M (.int .i64 k) true).run Tryd.prog W = .ok (.tuple #[vT x, .bool lk]) W)
    (hx : (x = none ∧ lk = false ∧ r = rc0) ∨ ∃ b v, x = some b ∧ lk = true ∧ RecA w b v r) :
    Calls Tryd.prog 18 #[hv, .int .i64 k] w fun e w' => e = .returned (.tuple #[pastV r, .bool lk]) ∧ Aside (Keeps Nowhere w w') := by
  obtain ⟨W1, hW1⟩ : ∃ W1, w.alloc (.cells #[.int .i64 0, .int .i64 0, .bool false, .bool false] 53) = W1 := ⟨_, rfl⟩
  obtain ⟨b1, hb1⟩ : ∃ b1, w.heap.size = b1 := ⟨_, rfl⟩
  have K1 : Aside (Keeps Nowhere w W1) := ⟨by rw [← hW1]; exact (Keeps.refl _ _).alloc _⟩
  have C1 : Aside (Cells W1 b1 53 [.int .i64 0, .int .i64 0, .bool false, .bool false]) := ⟨by rw [← hW1, ← hb1]; exact Cells.new w _ _⟩
  have HB := Aside.mk hb1
  have PP := Aside.mk (P W1 K1.it)
  have KK := K W1 K1.it
  have d0 : W1.cell? ⟨b1, 0, none⟩ = some (.int .i64 0) := by rw [C1.it.cell]; rfl
  have d1 : W1.cell? ⟨b1, 1, none⟩ = some (.int .i64 0) := by rw [C1.it.cell]; rfl
  have d2 : W1.cell? ⟨b1, 2, none⟩ = some (.bool false) := by rw [C1.it.cell]; rfl
  have d3 : W1.cell? ⟨b1, 3, none⟩ = some (.bool false) := by rw [C1.it.cell]; rfl
  have f0 := C1.it.frozen 0
  have f1 := C1.it.frozen 1
  have f2 := C1.it.frozen 2
  have f3 := C1.it.frozen 3
  clear P K
  rcases hx with ⟨rfl, rfl, rfl⟩ | ⟨b, v, rfl, rfl, hr⟩
  · simp only [vT] at KK
    go_enter Tryd.func18, Tryd.ntmps18
    go_upto_region 1 with fail
    clear hW1 hb1
    go_wp2_with (first | (go_at_call 32; refine PP.it.mono ?_; rintro e w2 ⟨rfl, hw2⟩; subst hw2) | fail)
    have x4 := (((C1.it.setCell 0 (.int .i64 0)).setCell 1 (.int .i64 0)).setCell 2 (.bool false)).setCell 3 (.bool false)
    have y0 := x4.cell 0
    have y1 := x4.cell 1
    have y2 := x4.cell 2
    have y3 := x4.cell 3
    refine bodyPost_ret (v := .tuple #[.agg #[.int .i64 0, .int .i64 0, .bool false, .bool false], .bool false]) (by simp [results, Tryd.f18, go_sem, y0, y1, y2, y3]) rfl ?_
    refine ⟨rfl, ⟨?_⟩⟩
    refine K1.it.next (S' := fun k => k = b1) (((((Keeps.refl (fun k => k = b1) _).setCell ⟨b1, 0, none⟩ _ (fun _ => rfl)).setCell ⟨b1, 1, none⟩ _ (fun _ => rfl)).setCell ⟨b1, 2, none⟩ _ (fun _ => rfl)).setCell ⟨b1, 3, none⟩ _ (fun _ => rfl)) (fun k e hlt => by have := HB.it; omega)
  · simp only [vT] at KK
    obtain ⟨ns, gn, hc, _⟩ := hr
    have hc1 := hc.later K1.it (fun x => x)
    obtain ⟨wl, hwl⟩ : ∃ wl, r.wr.length = wl := ⟨_, rfl⟩
    have c0 : W1.cell? ⟨b, 0, none⟩ = some (.int .i64 (wl : Int)) := by rw [hc1.cell, ← hwl]; rfl
    have c1 : W1.cell? ⟨b, 1, none⟩ = some (.int .i64 (r.rd : Int)) := by rw [hc1.cell]; rfl
    have c2 : W1.cell? ⟨b, 2, none⟩ = some (.bool r.cl) := by rw [hc1.cell]; rfl
    have c3 : W1.cell? ⟨b, 3, none⟩ = some (.bool r.en) := by rw [hc1.cell]; rfl
    have hbb : b ≠ b1 := by have := hc.lt; omega
    simp only [pastV, hwl]
    clear hwl hc hc1
    go_enter Tryd.func18, Tryd.ntmps18
    go_upto_region 1 with fail
    clear hW1 hb1
    go_wp2_with (first | (go_at_call 32; refine PP.it.mono ?_; rintro e w2 ⟨rfl, hw2⟩; subst hw2) | fail)
    have x4 := (((C1.it.setCell 0 (.int .i64 wl)).setCell 1 (.int .i64 r.rd)).setCell 2 (.bool r.cl)).setCell 3 (.bool r.en)
    have y0 := x4.cell 0
    have y1 := x4.cell 1
    have y2 := x4.cell 2
    have y3 := x4.cell 3
    refine bodyPost_ret (v := .tuple #[.agg #[.int .i64 wl, .int .i64 r.rd, .bool r.cl, .bool r.en], .bool true]) (by simp [results, Tryd.f18, go_sem, y0, y1, y2, y3]) rfl ?_
    refine ⟨rfl, ⟨?_⟩⟩
    refine K1.it.next (S' := fun k => k = b1) (((((Keeps.refl (fun k => k = b1) _).setCell ⟨b1, 0, none⟩ _ (fun _ => rfl)).setCell ⟨b1, 1, none⟩ _ (fun _ => rfl)).setCell ⟨b1, 2, none⟩ _ (fun _ => rfl)).setCell ⟨b1, 3, none⟩ _ (fun _ => rfl)) (fun k e hlt => by have := HB.it; omega)
theorem past_at (h : TrO own i w p T L) (hk : Zw k) : Calls Tryd.prog 18 #[ptr p, .int .i64 k] w fun e w' => e = .returned (.tuple #[pastV (got L k), .bool (tget L k).isSome]) ∧ Aside (Keeps Nowhere w w') := by
  obtain ⟨mb, F, hI, hp, hmb, hob⟩ := h.it
  have hK : ∀ W, Keeps Nowhere w W → TrI W p mb L F := fun W k => hI.later k (fun x => x) (fun x => x) (fun _ _ _ _ => ⟨fun x => x, fun _ _ x => x⟩)
  rw [← hI.dom k]
  refine past_raw (M := .map (some mb)) (x := (F k).map (·.1)) (fun W k => records_at (hK W k).pc) (fun W kp => (hK W kp).look hk) ?_
  cases e : F k with
  | none =>
    refine .inl ⟨rfl, rfl, ?_⟩
    have hd := hI.dom k
    rw [e] at hd
    cases hl : tget L k with
    | none => unfold got; rw [hl]; rfl
    | some r => rw [hl] at hd; cases hd
  | some x =>
    obtain ⟨b, v⟩ := x
    obtain ⟨r, hl, hr⟩ := hI.rcd e
    refine .inr ⟨b, v, rfl, rfl, ?_⟩
    rw [show got L k = r by unfold got; rw [hl]; rfl]
    exact hr
theorem past_nil (w : World) (hk : Zw k) : Calls Tryd.prog 18 #[.pointer none, .int .i64 k] w fun e w' => e = .returned (.tuple #[pastV rc0, .bool false]) ∧ Aside (Keeps Nowhere w w') :=
  past_raw (M := .map none) (x := none) (fun W _ => records_nil W) (fun W _ => look_none W hk) (.inl ⟨rfl, rfl, rfl⟩)
end Go.Proofs.YtambdgcogldbgaaDoor
