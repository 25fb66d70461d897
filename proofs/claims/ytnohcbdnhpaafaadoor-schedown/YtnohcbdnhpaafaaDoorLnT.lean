/-
  package lane: Forget, Clear, Withdraw
-/
import Derived.Test.YtnohcbdnhpaafaaDoorLnS
namespace Go.Proofs.YtnohcbdnhpaafaaDoor
open Go.RowKit

variable {A : Nat → Addr} {w w' w0 W W' : World} {own own' : Nat → Nat} {i p fp mb m wb lb j : Nat} {I : Nat → Prop} {F : Int → Nat → Option Nat} {Z : Zs} {fw : Value} {out : Nat × Tk → Bool} {Ex : Nat → World → Prop} {x : Nat × Tk}

theorem MapF.ne_cells {g : Nat} {e : TypeId} {xs : List Value} (h : MapF W mb m F) (hc : Cells W g e xs) : g ≠ mb := by
  rintro rfl
  obtain ⟨D, ⟨es, clock, hb, _⟩, _⟩ := h
  unfold Cells at hc
  rw [hb] at hc
  cases hc
theorem Cells.ne_type {g g' : Nat} {e e' : TypeId} {xs ys : List Value} (h : Cells W g e xs) (h' : Cells W g' e' ys) (hne : e ≠ e') : g ≠ g' := by
  rintro rfl
  unfold Cells at h h'
  rw [h] at h'
  injection h' with h'
  injection h' with _ h'
  exact hne h'
theorem Rm.go (R : Rm p fp mb m wb lb fw Z out Ex j W) (hF : MapF W mb m F) (hx : Z[j]? = some x) (ho : out x = true) (m' : MapF W' mb m (setF F x.2.k x.2.s none)) (hH : Holds2 F Z out j) (hk : Keeps (fun k => k = mb) W W') (hex : Ex (j + 1) W') : Rm p fp mb m wb lb fw Z out Ex (j + 1) W' :=
  ⟨R.box.later hk (hF.ne_cells R.box), fun y hy => (R.tks y hy).later hk (hF.ne_cells (R.tks y hy)), ⟨_, m', holds2_go hH hx ho⟩, R.cw.later hk (hF.ne_cells R.cw), R.cl.later hk (hF.ne_cells R.cl), hex⟩
theorem Rm.stay (R : Rm p fp mb m wb lb fw Z out Ex j W) (hx : Z[j]? = some x) (ho : out x = false) (hex : Ex (j + 1) W) : Rm p fp mb m wb lb fw Z out Ex (j + 1) W := by
  obtain ⟨F, h1, h2⟩ := R.map
  exact ⟨R.box, R.tks, ⟨F, h1, holds2_stay h2 hx ho⟩, R.cw, R.cl, hex⟩

theorem clear1 (b : Nat) (W : World) : Calls Tryd.prog 65 #[ptr b] W fun e W' => e = .returned (.bool true) ∧ W' = W := by
  go_enter Tryd.func65, Tryd.ntmps65
  go_wp2
  go_ret
  exact ⟨rfl, rfl⟩
theorem forget1 (b sb : Nat) (t : Tk) (s : Nat) (hb : Cells W b 29 (tcells t)) (hs : Cells W sb 27 [.int .u32 s]) : Calls Tryd.prog 62 #[ptr b, ptr sb] W fun e W' => e = .returned (.bool (decide (t.s = s))) ∧ W' = W.drew := by
  obtain ⟨b0, b1, b2⟩ := TB.of hb
  have s0 : W.cell? ⟨sb, 0, none⟩ = some (.int .u32 s) := by rw [hs.cell]; rfl
  have e : Aside (decide ((t.s : Int) = s) = decide (t.s = s)) := ⟨decide_eq_decide.2 (by omega)⟩
  rw [← e.it]
  clear hb hs e
  go_enter Tryd.func62, Tryd.ntmps62
  go_wp2
  go_region
  go_wp2
  go_ret
  exact ⟨rfl, rfl⟩

/-- the closure that remove hands to the queue, round one that changes nothing -/
theorem cbF (sb s : Nat) (hsb : ∀ W, Ex j W → Cells W sb 27 [.int .u32 s]) (hEx : ∀ W W', Ex j W → Keeps (fun k => k = mb) W W' → mb ≠ sb → Ex (j + 1) W') (R : Rm p fp mb m wb lb (.func (.func 62) #[] #[ptr sb]) Z out Ex j W) (hz : ZOk Z) (hx : Z[j]? = some x) (ho : out x = decide (x.2.s = s)) :
    Calls Tryd.prog 74 #[ptr x.1, ptr wb, ptr lb] W fun e W' => e = .returned (.bool (out x)) ∧ Aside (Rm p fp mb m wb lb (.func (.func 62) #[] #[ptr sb]) Z out Ex (j + 1) W') ∧ Aside (Keeps (fun k => k = mb) W W') := by
  obtain ⟨F, mF, hH⟩ := R.map
  have hm := List.mem_of_getElem? hx
  have c1 : W.cell? ⟨wb, 0, none⟩ = some (.func (.func 62) #[] #[ptr sb]) := by rw [R.cw.cell]; rfl
  have CB := Aside.mk (forget1 x.1 sb x.2 s (R.tks x hm) (hsb W R.ex))
  rw [← ho] at CB
  have kd : Keeps Nowhere W W.drew := (Keeps.refl _ _).drew
  have hne : mb ≠ sb := (mF.ne_cells (hsb W R.ex)).symm
  have p1 : W.drew.cell? ⟨p, 1, none⟩ = some (.map (some mb)) := by rw [(R.box.drew).cell]; rfl
  have LV := Aside.mk (leave_at p x.1 mb m x.2 (hz.may x hm).2 p1 (TB.of ((R.tks x hm).drew)) (mF.later kd (fun x => x)))
  have d1 : W.drew.cell? ⟨lb, 0, none⟩ = some (ptr p) := by rw [(R.cl.drew).cell]; rfl
  have RR := Aside.mk R
  have HX := Aside.mk (fun W' h => hEx W W' R.ex h hne)
  cases hb : out x with
  | true =>
    rw [hb] at CB
    have HB := Aside.mk hb
    clear hb ho R p1 kd
    go_enter Tryd.func74, Tryd.ntmps74
    go_wp2_with (first | (go_at_call 62; refine CB.it.mono ?_; rintro e w1 ⟨rfl, hw1⟩; subst hw1) | (go_at_call 56; refine LV.it.mono ?_; rintro e w2 ⟨rfl, m2, k2⟩) | fail)
    go_ret
    have k3 : Keeps (fun k => k = mb) W w2 := ((Keeps.refl _ _).drew).trans k2
    exact ⟨rfl, ⟨RR.it.go mF hx HB.it m2 hH k3 (HX.it w2 k3)⟩, ⟨k3⟩⟩
  | false =>
    rw [hb] at CB
    have HB := Aside.mk hb
    clear hb ho R p1 kd
    go_enter Tryd.func74, Tryd.ntmps74
    go_wp2_with (first | (go_at_call 62; refine CB.it.mono ?_; rintro e w1 ⟨rfl, hw1⟩; subst hw1) | fail)
    go_ret
    have k3 : Keeps (fun k => k = mb) W W.drew := (Keeps.refl _ _).drew
    have kd : Keeps Nowhere W W.drew := (Keeps.refl _ _).drew
    have r1 : Rm p fp mb m wb lb (.func (.func 62) #[] #[ptr sb]) Z out Ex (j + 1) W.drew :=
      ⟨RR.it.box.drew, fun y hy => (RR.it.tks y hy).drew, ⟨F, mF.later kd (fun x => x), holds2_stay hH hx HB.it⟩, RR.it.cw.drew, RR.it.cl.drew, HX.it _ k3⟩
    exact ⟨rfl, ⟨r1⟩, ⟨k3⟩⟩
/-- the closure that remove hands to the queue, round one that changes nothing -/
theorem cbC (hEx : ∀ W W', Ex j W → Keeps (fun k => k = mb) W W' → Ex (j + 1) W') (R : Rm p fp mb m wb lb (.func (.func 65) #[] #[]) Z out Ex j W) (hz : ZOk Z) (hx : Z[j]? = some x) (ho : out x = true) :
    Calls Tryd.prog 74 #[ptr x.1, ptr wb, ptr lb] W fun e W' => e = .returned (.bool (out x)) ∧ Aside (Rm p fp mb m wb lb (.func (.func 65) #[] #[]) Z out Ex (j + 1) W') ∧ Aside (Keeps (fun k => k = mb) W W') := by
  obtain ⟨F, mF, hH⟩ := R.map
  have hm := List.mem_of_getElem? hx
  have c1 : W.cell? ⟨wb, 0, none⟩ = some (.func (.func 65) #[] #[]) := by rw [R.cw.cell]; rfl
  have CB := Aside.mk (clear1 x.1 W)
  have p1 : W.cell? ⟨p, 1, none⟩ = some (.map (some mb)) := by rw [R.box.cell]; rfl
  have LV := Aside.mk (leave_at p x.1 mb m x.2 (hz.may x hm).2 p1 (TB.of (R.tks x hm)) mF)
  have d1 : W.cell? ⟨lb, 0, none⟩ = some (ptr p) := by rw [R.cl.cell]; rfl
  have RR := Aside.mk R
  have HX := Aside.mk (fun W' h => hEx W W' R.ex h)
  have HB := Aside.mk ho
  rw [ho]
  clear ho R p1
  go_enter Tryd.func74, Tryd.ntmps74
  go_wp2_with (first | (go_at_call 65; refine CB.it.mono ?_; rintro e w1 ⟨rfl, hw1⟩; subst hw1) | (go_at_call 56; refine LV.it.mono ?_; rintro e w2 ⟨rfl, m2, k2⟩) | fail)
  go_ret
  exact ⟨rfl, ⟨RR.it.go mF hx HB.it m2 hH k2 (HX.it w2 k2)⟩, ⟨k2⟩⟩

theorem forget_at (h : LnO own i w p Z m) (hm : m ≤ 8796093022208) (s : Nat) :
    Calls Tryd.prog 42 #[ptr p, .int .u32 s] w fun e w' => ∃ own', e = .returned (.int .i64 (Z.countP (fun x => decide (x.2.s = s)))) ∧ Aside (LnO own' i w' p (Z.filter (fun x => !decide (x.2.s = s))) m ∧ Sn (In4 i) own w own' w') := by
  obtain ⟨fp, mb, F, h⟩ := h
  obtain ⟨W0, hW0⟩ : ∃ W0, W0 = w.alloc (.cells #[.int .u32 s] 27) := ⟨_, rfl⟩
  have k0 : Keeps Nowhere w W0 := by rw [hW0]; exact (Keeps.refl _ _).alloc _
  have C0 : Cells W0 w.heap.size 27 [.int .u32 s] := by rw [hW0]; exact Cells.new _ _ _
  have H0 := h.sn (I := fun _ => False) (Sn.quiet k0 (i + 5)) (fun _ _ x => x)
  have RM := Aside.mk (remove_gen (w := W0) H0 hm (.func 62) #[] #[ptr w.heap.size] (fun x => decide (x.2.s = s)) (fun _ W => Cells W w.heap.size 27 [.int .u32 s]) (fun _ => False) (fun _ x => x.elim) (fun W k => C0.later k (fun x => x)) (fun _ W W' hc hk => hc.later hk (by have := C0.lt; omega))
    (fun j x W hx R => (cbF w.heap.size s (fun W hW => hW) (fun W W' hW hk hne => hW.later hk (fun e => hne e.symm)) R h.ok hx rfl).mono (fun e W' ⟨a, b, c⟩ => ⟨a, b, ⟨c.it.mono (fun k e _ => .inl e)⟩⟩)))
  have K0 := Aside.mk k0
  clear h H0 C0 k0
  go_enter Tryd.func42, Tryd.ntmps42
  go_upto_region 1 with fail
  rw [← hW0]
  clear hW0
  go_wp2_with (first | (go_at_call 61; refine RM.it.mono ?_; rintro e w2 ⟨own2, rfl, r2⟩) | fail)
  go_ret
  exact ⟨own2, rfl, ⟨r2.it.1, sn_of4 K0.it r2.it.2.1 r2.it.2.2 (fun _ x => x.elim)⟩⟩
theorem clear_at (h : LnO own i w p Z m) (hm : m ≤ 8796093022208) :
    Calls Tryd.prog 44 #[ptr p] w fun e w' => ∃ own', e = .returned (.int .i64 Z.length) ∧ Aside (LnO own' i w' p [] m ∧ Sn (In4 i) own w own' w') := by
  obtain ⟨fp, mb, F, h⟩ := h
  have RM := Aside.mk (remove_gen h hm (.func 65) #[] #[] (fun _ => true) (fun _ _ => True) (fun _ => False) (fun _ x => x.elim) (fun _ _ => trivial) (fun _ _ _ _ _ => trivial)
    (fun j x W hx R => (cbC (fun _ _ _ _ => trivial) R h.ok hx rfl).mono (fun e W' ⟨a, b, c⟩ => ⟨a, b, ⟨c.it.mono (fun k e _ => .inl e)⟩⟩)))
  have e1 : Z.countP (fun _ => true) = Z.length := by simp
  have e2 : Z.filter (fun _ => !true) = [] := by simp
  rw [e1, e2] at RM
  clear h e1 e2
  go_enter Tryd.func44, Tryd.ntmps44
  go_wp2_with (first | (go_at_call 61; refine RM.it.mono ?_; rintro e w2 ⟨own2, rfl, r2⟩) | fail)
  go_ret
  exact ⟨own2, rfl, ⟨r2.it.1, ⟨r2.it.2.1, r2.it.2.2.mono (fun k hk _ => hk.elim id (fun x => x.elim))⟩⟩⟩
end Go.Proofs.YtnohcbdnhpaafaaDoor
