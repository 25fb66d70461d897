import Derived.Test.YtnohcbdnhpaafaaDoorLnX
import Derived.Test.YtnohcbdnhpaafaaDoorLnC2
import Derived.Test.YtnohcbdnhpaafaaDoorRbx
import Derived.Test.YtnohcbdnhpaafaaDoorRowsS
/-
  package sched: a scheduler by its owners: the lane's four, the ring's 5, its box's 6
-/
namespace Go.Proofs.YtnohcbdnhpaafaaDoor
open Go.RowKit

variable {A : Nat → Addr} {w w' w0 : World} {own own' : Nat → Nat} {s p r m m' : Nat} {L L' : List Tk} {ks ks' : List Nat} {I : Nat → Prop}

def In6 : Nat → Prop := fun k => 1 ≤ k ∧ k ≤ 6
/-- a scheduler, its lane, its ring -/
structure ScI (A : Nat → Addr) (w0 : World) (own : Nat → Nat) (w : World) (s p r : Nat) (L : List Tk) (m : Nat) (ks : List Nat) : Prop where
  ln : Ln A w0 own w p L m
  rb : Rbuint32.RbO own 5 w r ks
  box : CellsO own 6 w s 68 [ptr p, ptr r]
def Sc (A : Nat → Addr) (w0 : World) (own : Nat → Nat) (w : World) (s : Nat) (L : List Tk) (m : Nat) (ks : List Nat) : Prop := ∃ p r, ScI A w0 own w s p r L m ks
theorem ScI.sn (h : ScI A w0 own w s p r L m ks) (q : Sn I own w own' w') (h0 : ¬ I 0) (hi : ∀ k, In6 k → ¬ I k) : ScI A w0 own' w' s p r L m ks :=
  ⟨h.ln.sn q h0 (fun k hk => hi k ⟨hk.1, by have := hk.2; omega⟩), h.rb.sn q (hi 5 ⟨by omega, by omega⟩), h.box.sn q (hi 6 ⟨by omega, by omega⟩)⟩
theorem ScI.quiet (h : ScI A w0 own w s p r L m ks) (k : Keeps Nowhere w w') : ScI A w0 own w' s p r L m ks := h.sn (I := fun _ => False) (Sn.same k) (fun x => x) (fun _ _ x => x)
theorem Sc.sn (h : Sc A w0 own w s L m ks) (q : Sn I own w own' w') (h0 : ¬ I 0) (hi : ∀ k, In6 k → ¬ I k) : Sc A w0 own' w' s L m ks := by
  obtain ⟨p, r, h⟩ := h
  exact ⟨p, r, h.sn q h0 hi⟩
theorem Sc.quiet (h : Sc A w0 own w s L m ks) (k : Keeps Nowhere w w') : Sc A w0 own w' s L m ks := h.sn (I := fun _ => False) (Sn.same k) (fun x => x) (fun _ _ x => x)
theorem ScI.lane (h : ScI A w0 own w s p r L m ks) (h1 : Ln A w0 own' w' p L' m') (q : Sn (In4 1) own w own' w') : ScI A w0 own' w' s p r L' m' ks :=
  ⟨h1, h.rb.sn q (fun x => by have := x.2; omega), h.box.sn q (fun x => by have := x.2; omega)⟩
theorem ScI.robin (h : ScI A w0 own w s p r L m ks) (h1 : Keeps (fun c => own c = 5) w w' ∧ Rbuint32.RbO (give own w.heap.size 5) 5 w' r ks') : ScI A w0 (give own w.heap.size 5) w' s p r L m ks' :=
  ⟨h.ln.sn (Sn.by h1.1 5) (fun x => by omega) (fun k hk e => by have := hk.2; omega), h1.2, h.box.sn (Sn.by h1.1 5) (fun x => by omega)⟩
theorem in46 : ∀ k, In4 1 k → In6 k := fun k h => ⟨h.1, by have := h.2; omega⟩
theorem in56 : ∀ k, k = 5 → In6 k := fun k h => ⟨by omega, by omega⟩
theorem not_in6_0 : ¬ In6 0 := fun h => by have := h.1; omega
theorem Sc.bound (h : Sc A w0 own w s L m ks) : L.length ≤ m := by
  obtain ⟨p, r, h⟩ := h
  exact h.ln.bound
/-- no stream twice, and each a number of 32 bits -/
theorem rb_nodup {i : Nat} (h : Rbuint32.RbO own i w r ks) : ks.Nodup ∧ ∀ k ∈ ks, k ≤ 4294967295 := by
  obtain ⟨mb, l, kf, pf, nf, h1, _, _, _, rfl⟩ := h
  refine ⟨?_, ?_⟩
  · unfold List.Nodup
    rw [List.pairwise_map]
    exact List.Pairwise.imp_of_mem (fun ha hb hab e => hab (h1.keys _ ha _ hb e)) h1.nodup
  · intro k hk
    obtain ⟨b, hb, rfl⟩ := List.mem_map.1 hk
    exact h1.ky b hb
theorem Sc.nodup (h : Sc A w0 own w s L m ks) : ks.Nodup ∧ ∀ k ∈ ks, k ≤ 4294967295 := by
  obtain ⟨p, r, h⟩ := h
  exact rb_nodup h.rb

theorem sc_f0 (a b : Option Addr) (w : World) : Sem.run Tryd.prog (Instr.field 68 (.agg #[.pointer a, .pointer b]) 0) w = .ok (.pointer a) w := by kernel_rfl
theorem sc_f1 (a b : Option Addr) (w : World) : Sem.run Tryd.prog (Instr.field 68 (.agg #[.pointer a, .pointer b]) 1) w = .ok (.pointer b) w := by kernel_rfl
theorem parts_at (h : ScI A w0 own w s p r L m ks) : Calls Tryd.prog 27 #[ptr s] w fun e w' => e = .returned (.agg #[ptr p, ptr r]) ∧ Aside (Keeps Nowhere w w') := by
  obtain ⟨w1, hw1⟩ : ∃ w1, w1 = w.alloc (.cells #[.pointer none, .pointer none] 68) := ⟨_, rfl⟩
  obtain ⟨g, hg⟩ : ∃ g, g = w.heap.size := ⟨_, rfl⟩
  have k1 : Keeps Nowhere w w1 := by rw [hw1]; exact (Keeps.refl _ _).alloc _
  have hc : Cells w1 g 68 [.pointer none, .pointer none] := by rw [hw1, hg]; exact Cells.new w _ _
  have hb := h.box.1.later k1 (fun x => x)
  have c0 : w1.cell? ⟨s, 0, none⟩ = some (ptr p) := hb.cell 0
  have c1 : w1.cell? ⟨s, 1, none⟩ = some (ptr r) := hb.cell 1
  have d0 : w1.cell? ⟨g, 0, none⟩ = some (.pointer none) := hc.cell 0
  have d1 : w1.cell? ⟨g, 1, none⟩ = some (.pointer none) := hc.cell 1
  have f1 : ∀ j, w1.frozen? ⟨g, j, none⟩ = false := hc.frozen
  have hne : s ≠ g := by have := h.box.1.lt; omega
  have K := Aside.mk (And.intro k1 hg)
  clear h hb k1 hc
  go_enter Tryd.func27, Tryd.ntmps27
  go_upto_region 1 with fail
  rw [← hg, ← hw1]
  clear hg hw1
  go_wp2
  refine bodyPost_ret (v := .agg #[ptr p, ptr r]) (by simp [results, Tryd.results27, go_sem, d0, d1]) rfl ⟨rfl, ⟨?_⟩⟩
  exact (K.it.1.setCell ⟨g, 0, none⟩ _ (fun h => absurd h (by show ¬ g < _; have := K.it.2; omega))).setCell ⟨g, 1, none⟩ _ (fun h => absurd h (by show ¬ g < _; have := K.it.2; omega))
theorem parts_nil (w : World) : Calls Tryd.prog 27 #[.pointer none] w fun e w' => e = .returned (.agg #[.pointer none, .pointer none]) ∧ Aside (Keeps Nowhere w w') := by
  obtain ⟨w1, hw1⟩ : ∃ w1, w1 = w.alloc (.cells #[.pointer none, .pointer none] 68) := ⟨_, rfl⟩
  obtain ⟨g, hg⟩ : ∃ g, g = w.heap.size := ⟨_, rfl⟩
  have k1 : Keeps Nowhere w w1 := by rw [hw1]; exact (Keeps.refl _ _).alloc _
  have hc : Cells w1 g 68 [.pointer none, .pointer none] := by rw [hw1, hg]; exact Cells.new w _ _
  have d0 : w1.cell? ⟨g, 0, none⟩ = some (.pointer none) := hc.cell 0
  have d1 : w1.cell? ⟨g, 1, none⟩ = some (.pointer none) := hc.cell 1
  have f1 : ∀ j, w1.frozen? ⟨g, j, none⟩ = false := hc.frozen
  have K := Aside.mk (And.intro k1 hg)
  clear k1 hc
  go_enter Tryd.func27, Tryd.ntmps27
  go_upto_region 1 with fail
  rw [← hg, ← hw1]
  clear hg hw1
  go_wp2
  refine bodyPost_ret (v := .agg #[.pointer none, .pointer none]) (by simp [results, Tryd.results27, go_sem, d0, d1]) rfl ⟨rfl, ⟨?_⟩⟩
  exact (K.it.1.setCell ⟨g, 0, none⟩ _ (fun h => absurd h (by show ¬ g < _; have := K.it.2; omega))).setCell ⟨g, 1, none⟩ _ (fun h => absurd h (by show ¬ g < _; have := K.it.2; omega))

theorem new_sc (h : Gl A w0 own w) : Calls Tryd.prog 7 #[] w fun e w' => ∃ s own', e = .returned (ptr s) ∧ Aside (Sc A w0 own' w' s [] 0 []) := by
  have NX := Aside.mk (newX h)
  clear h
  go_enter Tryd.func7, Tryd.ntmps7
  go_wp2_with (first
    | (go_at_call 25; refine NX.it.mono ?_; rintro e w1 ⟨p, own1, rfl, h1⟩)
    | (go_at_call 26; refine (Rbuint32.newO own1 5 w1).mono ?_; rintro e w2 ⟨r, rfl, h2⟩))
  go_ret
  have K := h2.it.1.alloc (.cells #[ptr p, ptr r] 68)
  have q1 : Sn (fun _ => False) own1 w1 (give own1 w1.heap.size 5) w2 := Sn.quiet h2.it.1 5
  have q2 : Sn (fun _ => False) (give own1 w1.heap.size 5) w2 (give (give own1 w1.heap.size 5) w2.heap.size 6) (w2.alloc (.cells #[ptr p, ptr r] 68)) := Sn.quiet ((Keeps.refl _ _).alloc _) 6
  exact ⟨_, _, rfl, ⟨p, r, (h1.it.sn q1 (fun x => x) (fun _ _ x => x)).sn q2 (fun x => x) (fun _ _ x => x), h2.it.2.sn q2 (fun x => x), Cells.new w2 _ _, give_new (Nat.le_refl _)⟩⟩
end Go.Proofs.YtnohcbdnhpaafaaDoor

/-
  package sched: Ready, Rest, Forget, Ticket, Withdraw, Tickets, Turns
-/
namespace Go.Proofs.YtnohcbdnhpaafaaDoor
open Go.RowKit

variable {A : Nat → Addr} {w w' w0 : World} {own own' : Nat → Nat} {s p r m m' : Nat} {L L' : List Tk} {ks ks' : List Nat} {I : Nat → Prop}

def uv (l : List Nat) : List Value := l.map Rbuint32.kv
theorem uv_len (l : List Nat) : (uv l).length = l.length := by simp [uv]
theorem uv_at {l : List Nat} {j k : Nat} (h : l[j]? = some k) : (uv l)[j]? = some (.int .u32 k) := by simp [uv, h]

theorem ready_sc (h : Sc A w0 own w s L m ks) (id : Nat) (hid : id ≤ 4294967295) (hl : ks.length < maxLen) :
    Calls Tryd.prog 9 #[ptr s, .int .u32 id] w fun e w' => ∃ own', e = .returned (.bool (addT ks id)) ∧ Aside (Sc A w0 own' w' s L m (addL ks id)) ∧ Aside (Sn In6 own w own' w') := by
  obtain ⟨p, r, h⟩ := h
  have P := Aside.mk (parts_at h)
  have C := Aside.mk (fun W (k : Keeps Nowhere w W) => Rbuint32.addO (k := id) (h.quiet k).rb hid hl)
  have H := Aside.mk h
  clear h
  have F0 := sc_f0 (some ⟨p, 0, none⟩) (some ⟨r, 0, none⟩)
  have F1 := sc_f1 (some ⟨p, 0, none⟩) (some ⟨r, 0, none⟩)
  go_enter Tryd.func9, Tryd.ntmps9
  go_wp2_with (first
    | (go_at_call 27; refine P.it.mono ?_; rintro e w1 ⟨rfl, k1⟩)
    | (go_at_call 29; refine (C.it w1 k1.it).mono ?_; rintro e w2 ⟨rfl, r2⟩))
  go_ret
  exact ⟨_, rfl, ⟨p, r, (H.it.quiet k1.it).robin r2.it⟩, ⟨(Sn.same k1.it).trans ((Sn.by r2.it.1 5).mono in56)⟩⟩
theorem rest_sc (h : Sc A w0 own w s L m ks) (id : Nat) (hid : id ≤ 4294967295) :
    Calls Tryd.prog 17 #[ptr s, .int .u32 id] w fun e w' => ∃ own', e = .returned (.bool (inT ks id)) ∧ Aside (Sc A w0 own' w' s L m (remL ks id)) ∧ Aside (Sn In6 own w own' w') := by
  obtain ⟨p, r, h⟩ := h
  have P := Aside.mk (parts_at h)
  have C := Aside.mk (fun W (k : Keeps Nowhere w W) => Rbuint32.removeO (k := id) (h.quiet k).rb hid)
  have H := Aside.mk h
  clear h
  have F0 := sc_f0 (some ⟨p, 0, none⟩) (some ⟨r, 0, none⟩)
  have F1 := sc_f1 (some ⟨p, 0, none⟩) (some ⟨r, 0, none⟩)
  go_enter Tryd.func17, Tryd.ntmps17
  go_wp2_with (first
    | (go_at_call 27; refine P.it.mono ?_; rintro e w1 ⟨rfl, k1⟩)
    | (go_at_call 41; refine (C.it w1 k1.it).mono ?_; rintro e w2 ⟨rfl, r2⟩))
  go_ret
  exact ⟨_, rfl, ⟨p, r, (H.it.quiet k1.it).robin r2.it⟩, ⟨(Sn.same k1.it).trans ((Sn.by r2.it.1 5).mono in56)⟩⟩
theorem withdraw_sc (h : Sc A w0 own w s L m ks) (hm : m ≤ 8796093022208) (kind : Int) (id : Nat) (hid : id ≤ 4294967295) :
    Calls Tryd.prog 19 #[ptr s, .int .i64 kind, .int .u32 id] w fun e w' => ∃ own', e = .returned (.bool (L.any (isT kind id))) ∧ Aside (Sc A w0 own' w' s (L.eraseP (isT kind id)) m ks) ∧ Aside (Sn In6 own w own' w') := by
  obtain ⟨p, r, h⟩ := h
  have P := Aside.mk (parts_at h)
  have C := Aside.mk (fun W (k : Keeps Nowhere w W) => withdrawX (h.quiet k).ln hm kind id hid)
  have H := Aside.mk h
  clear h
  have F0 := sc_f0 (some ⟨p, 0, none⟩) (some ⟨r, 0, none⟩)
  have F1 := sc_f1 (some ⟨p, 0, none⟩) (some ⟨r, 0, none⟩)
  go_enter Tryd.func19, Tryd.ntmps19
  go_wp2_with (first
    | (go_at_call 27; refine P.it.mono ?_; rintro e w1 ⟨rfl, k1⟩)
    | (go_at_call 43; refine (C.it w1 k1.it).mono ?_; rintro e w2 ⟨own2, rfl, r2, q2⟩))
  go_ret
  exact ⟨_, rfl, ⟨p, r, (H.it.quiet k1.it).lane r2.it q2.it⟩, ⟨(Sn.same k1.it).trans (q2.it.mono in46)⟩⟩
theorem forget_sc (h : Sc A w0 own w s L m ks) (hm : m ≤ 8796093022208) (id : Nat) (hid : id ≤ 4294967295) :
    Calls Tryd.prog 18 #[ptr s, .int .u32 id] w fun e w' => ∃ own', e = .returned (.int .i64 (L.countP (fun t => decide (t.s = id)))) ∧ Aside (Sc A w0 own' w' s (L.filter (fun t => !decide (t.s = id))) m (remL ks id)) ∧ Aside (Sn In6 own w own' w') := by
  have R := Aside.mk (rest_sc h id hid)
  clear h
  go_enter Tryd.func18, Tryd.ntmps18
  go_upto_region 2 with (go_at_call 17; refine R.it.mono ?_; rintro e w1 ⟨own1, rfl, h1, q1⟩)
  obtain ⟨p, r, h⟩ := h1.it
  have P := Aside.mk (parts_at h)
  have F0 := sc_f0 (some ⟨p, 0, none⟩) (some ⟨r, 0, none⟩)
  have C := Aside.mk (fun W (k : Keeps Nowhere w1 W) => forgetX (h.quiet k).ln hm id)
  have H := Aside.mk h
  clear h
  go_wp2_with (first
    | (go_at_call 27; refine P.it.mono ?_; rintro e w2 ⟨rfl, k2⟩)
    | (go_at_call 42; refine (C.it w2 k2.it).mono ?_; rintro e w3 ⟨own3, rfl, r3, q3⟩))
  go_ret
  exact ⟨_, rfl, ⟨p, r, (H.it.quiet k2.it).lane r3.it q3.it⟩, ⟨q1.it.trans ((Sn.same k2.it).trans (q3.it.mono in46))⟩⟩
theorem clear_sc (h : Sc A w0 own w s L m ks) (hm : m ≤ 8796093022208) :
    Calls Tryd.prog 21 #[ptr s] w fun e w' => ∃ own', e = .returned (.tuple #[]) ∧ Aside (Sc A w0 own' w' s [] m []) ∧ Aside (Sn In6 own w own' w') := by
  obtain ⟨p, r, h⟩ := h
  have P := Aside.mk (parts_at h)
  have C := Aside.mk (fun W own' (q : Sn (fun _ => False) own w own' W) => clearX (h.sn q (fun x => x) (fun _ _ x => x)).ln hm)
  have H := Aside.mk h
  clear h
  go_enter Tryd.func21, Tryd.ntmps21
  go_upto_region 1 with (go_at_call 27; refine P.it.mono ?_; rintro e w1 ⟨rfl, k1⟩)
  obtain ⟨b, hb⟩ : ∃ b, b = w1.heap.size := ⟨_, rfl⟩
  obtain ⟨w2, hw2⟩ : ∃ w2, w2 = w1.alloc (.cells #[ptr p, ptr r] 68) := ⟨_, rfl⟩
  have k2 : Keeps Nowhere w1 w2 := by rw [hw2]; exact (Keeps.refl _ _).alloc _
  have q2 : Sn (fun _ => False) own w (give own w1.heap.size 9) w2 := (Sn.same k1.it).trans (Sn.quiet k2 9)
  have hc : CellsO (give own w1.heap.size 9) 9 w2 b 68 [ptr p, ptr r] := by rw [hb, hw2]; exact ⟨Cells.new w1 _ _, give_new (Nat.le_refl _)⟩
  have C2 := Aside.mk (C.it _ _ q2)
  have H2 := Aside.mk (H.it.sn q2 (fun x => x) (fun _ _ x => x))
  have Q2 := Aside.mk q2
  have c0 : w2.cell? ⟨b, 0, none⟩ = some (ptr p) := hc.1.cell 0
  have B2 := Aside.mk hc
  rw [← hb, ← hw2]
  clear hc q2 k2 hw2 hb C P H k1
  go_upto_region 2 with (go_at_call 44; refine C2.it.mono ?_; rintro e w3 ⟨own3, rfl, h3, q3⟩)
  have H3 := Aside.mk (H2.it.lane h3.it q3.it)
  have R3 := Aside.mk (Rbuint32.clearO H3.it.rb)
  have c1 : w3.cell? ⟨b, 1, none⟩ = some (ptr r) := (B2.it.sn q3.it (fun x => by have := x.2; omega)).1.cell 1
  clear c0
  go_wp2_with (go_at_call 45; refine R3.it.mono ?_; rintro e w4 ⟨rfl, r4⟩)
  go_end0
  exact ⟨_, rfl, ⟨p, r, H3.it.robin r4.it⟩, ⟨(Q2.it.mono (fun _ x => x.elim)).trans ((q3.it.mono in46).trans ((Sn.by r4.it.1 5).mono in56))⟩⟩
theorem b3 {W : World} {b : Nat} {t : Tk} (h : Aside (Cells W b 29 (tcells t))) : W.cell? ⟨b, 0, none⟩ = some (.int .i64 t.k) ∧ W.cell? ⟨b, 1, none⟩ = some (.int .u32 t.s) ∧ W.cell? ⟨b, 2, none⟩ = some (.int .u32 t.v) := ⟨h.it.cell 0, h.it.cell 1, h.it.cell 2⟩
theorem ticket_sc (h : Sc A w0 own w s L m ks) (t : Tk) (ht : t.Wide) (hm : m < 8796093022208) :
    Calls Tryd.prog 8 #[ptr s, tkv t.k t.s t.v] w fun e w' => ∃ x own', e = .returned x ∧ Hid (Coded A x (putL L t).2) ∧ Aside (Sc A w0 own' w' s (putL L t).1 (m + 1) ks) ∧ Aside (Sn In6 own w own' w') := by
  obtain ⟨p, r, h⟩ := h
  obtain ⟨b, hb⟩ : ∃ b, b = w.heap.size := ⟨_, rfl⟩
  obtain ⟨w1, hw1⟩ : ∃ w1, w1 = w.alloc (.cells #[.int .i64 t.k, .int .u32 t.s, .int .u32 t.v] 29) := ⟨_, rfl⟩
  have k1 : Keeps Nowhere w w1 := by rw [hw1]; exact (Keeps.refl _ _).alloc _
  have hc : Cells w1 b 29 (tcells t) := by rw [hb, hw1]; exact Cells.new w _ _
  have P : Aside (∀ W, Aside (Keeps Nowhere w W) → Aside (Cells W b 29 (tcells t)) → Calls Tryd.prog 27 #[ptr s] W fun e w' => e = .returned (.agg #[ptr p, ptr r]) ∧ Aside (Keeps Nowhere w w') ∧ Aside (Cells w' b 29 (tcells t))) := ⟨fun W k c => by
    refine (parts_at (h.quiet k.it)).mono ?_
    rintro e w' ⟨rfl, kk⟩
    exact ⟨rfl, ⟨k.it.trans kk.it⟩, ⟨c.it.later kk.it (fun x => x)⟩⟩⟩
  have C : Aside (∀ W, Aside (Keeps Nowhere w W) → Aside (Cells W b 29 (tcells t)) → Calls Tryd.prog 28 #[ptr p, tkv t.k t.s t.v] W fun e w' => ∃ x own', e = .returned x ∧ Hid (Coded A x (putL L t).2) ∧ Aside (Sc A w0 own' w' s (putL L t).1 (m + 1) ks) ∧ Aside (Sn In6 own w own' w') ∧ Aside (Cells w' b 29 (tcells t))) := ⟨fun W k c => by
    have q0 := Sn.quiet (own := own) (I := fun _ => False) k.it 9
    refine (putX (h.sn q0 (fun x => x) (fun _ _ x => x)).ln t ht hm).mono ?_
    rintro e w' ⟨x, own', rfl, hx, l, q⟩
    have cc : CellsO (give own w.heap.size 9) 9 W b 29 (tcells t) := ⟨c.it, give_new (by omega)⟩
    exact ⟨x, own', rfl, hx, ⟨p, r, (h.sn q0 (fun x => x) (fun _ _ x => x)).lane l.it q.it⟩, ⟨(q0.mono (fun _ x => x.elim)).trans (q.it.mono in46)⟩, ⟨(cc.sn q.it (fun x => by have := x.2; omega)).1⟩⟩⟩
  have K1 := Aside.mk k1.drew
  have B1 := Aside.mk (Cells.drew hc)
  clear h k1 hc
  have F0 := sc_f0 (some ⟨p, 0, none⟩) (some ⟨r, 0, none⟩)
  have F1 := sc_f1 (some ⟨p, 0, none⟩) (some ⟨r, 0, none⟩)
  go_enter Tryd.func8, Tryd.ntmps8
  go_upto_region 1 with fail
  rw [← hb, ← hw1]
  clear hb hw1
  go_region_held_law (fun W => W.cell? ⟨b, 0, none⟩ = some (.int .i64 t.k) ∧ W.cell? ⟨b, 1, none⟩ = some (.int .u32 t.s) ∧ W.cell? ⟨b, 2, none⟩ = some (.int .u32 t.v)) (exact b3 (by with_reducible assumption)) (first
    | (go_at_call 28; with_reducible refine (C.it _ (by with_reducible assumption) (by with_reducible assumption)).mono ?_; rintro e w3 ⟨x, own3, rfl, hx, H3, Q3, B3⟩)
    | (go_at_call 27; with_reducible refine (P.it _ (by with_reducible assumption) (by with_reducible assumption)).mono ?_; rintro e w2 ⟨rfl, K2, B2⟩))
  all_goals go_wp2_with fail
  all_goals go_ret
  all_goals exact ⟨x, own3, rfl, hx, H3, Q3⟩
theorem tickets_sc (h : Sc A w0 own w s L m ks) (hm : m ≤ 8796093022208) :
    Calls Tryd.prog 10 #[ptr s] w fun e w' => ∃ v, e = .returned v ∧ Aside (w'.ownsRow w.heap.size 29 3 v L.length (flatT L)) ∧ Aside (Keeps Nowhere w w') := by
  obtain ⟨p, r, h⟩ := h
  have P := Aside.mk (parts_at h)
  have C := Aside.mk (fun W (k : Keeps Nowhere w W) => listX (h.quiet k).ln hm)
  clear h
  have F0 := sc_f0 (some ⟨p, 0, none⟩) (some ⟨r, 0, none⟩)
  have F1 := sc_f1 (some ⟨p, 0, none⟩) (some ⟨r, 0, none⟩)
  go_enter Tryd.func10, Tryd.ntmps10
  go_wp2_with (first
    | (go_at_call 27; refine P.it.mono ?_; rintro e w1 ⟨rfl, k1⟩)
    | (go_at_call 30; refine (C.it w1 k1.it).mono ?_; rintro e w2 ⟨v, rfl, o2, k2⟩))
  go_ret
  exact ⟨_, rfl, ⟨owns_mono o2.it k1.it.size⟩, ⟨k1.it.trans k2.it⟩⟩
theorem list_rb {i : Nat} (h : Rbuint32.RbO own i w r ks) (hmax : ks.length * 4 ≤ 140737488355328) :
    Calls Tryd.prog 31 #[ptr r] w fun e w' => ∃ v, e = .returned v ∧ Aside (w'.ownsRow w.heap.size 27 1 v ks.length (uv ks)) ∧ Aside (Keeps Nowhere w w') := by
  obtain ⟨mb, l, kf, pf, nf, h1, _, _, _, rfl⟩ := h
  rw [List.length_map] at hmax ⊢
  by_cases h0 : l = []
  · subst h0
    refine (Rbuint32.list_none h1).mono ?_
    rintro e w' ⟨rfl, rfl⟩
    exact ⟨_, rfl, ⟨World.ownsRow_nil _ _ _ _⟩, ⟨Keeps.refl _ _⟩⟩
  · refine (Rbuint32.list_some h1 h0 hmax).mono ?_
    rintro e w' ⟨rfl, c, k⟩
    refine ⟨_, rfl, ⟨by simp [uv], .inr ⟨w.heap.size, l.length, _, rfl, Nat.le_refl _, c.it, Nat.le_refl _, by unfold maxLen; omega, by simp, by rw [List.take_of_length_le (by simp)]; simp [uv]⟩⟩, k⟩
theorem turns_sc (h : Sc A w0 own w s L m ks) (hl : ks.length * 4 ≤ 140737488355328) :
    Calls Tryd.prog 11 #[ptr s] w fun e w' => ∃ v, e = .returned v ∧ Aside (w'.ownsRow w.heap.size 27 1 v ks.length (uv ks)) ∧ Aside (Keeps Nowhere w w') := by
  obtain ⟨p, r, h⟩ := h
  have P := Aside.mk (parts_at h)
  have C := Aside.mk (fun W (k : Keeps Nowhere w W) => list_rb (h.quiet k).rb hl)
  clear h
  have F0 := sc_f0 (some ⟨p, 0, none⟩) (some ⟨r, 0, none⟩)
  have F1 := sc_f1 (some ⟨p, 0, none⟩) (some ⟨r, 0, none⟩)
  go_enter Tryd.func11, Tryd.ntmps11
  go_wp2_with (first
    | (go_at_call 27; refine P.it.mono ?_; rintro e w1 ⟨rfl, k1⟩)
    | (go_at_call 31; refine (C.it w1 k1.it).mono ?_; rintro e w2 ⟨v, rfl, o2, k2⟩))
  go_ret
  exact ⟨_, rfl, ⟨owns_mono o2.it k1.it.size⟩, ⟨k1.it.trans k2.it⟩⟩
theorem owns_sl {base : Nat} {e : TypeId} {k n : Nat} {v : Value} {xs : List Value} (h : w.ownsRow base e k v n xs) : ∃ a c, v = .slice a n c := by
  rcases h.2 with ⟨rfl, rfl⟩ | ⟨g, cap, cur, rfl, _⟩
  · exact ⟨_, _, rfl⟩
  · exact ⟨_, _, rfl⟩
theorem turns_sl (h : Sc A w0 own w s L m ks) (hl : ks.length * 4 ≤ 140737488355328) :
    Calls Tryd.prog 11 #[ptr s] w fun e w' => ∃ a c, e = .returned (.slice a ks.length c) ∧ Aside (w'.ownsRow w.heap.size 27 1 (.slice a ks.length c) ks.length (uv ks)) ∧ Aside (Keeps Nowhere w w') := by
  refine (turns_sc h hl).mono ?_
  rintro e w' ⟨v, rfl, o, k⟩
  obtain ⟨a, c, rfl⟩ := owns_sl o.it
  exact ⟨a, c, rfl, o, k⟩
theorem tickets_sl (h : Sc A w0 own w s L m ks) (hm : m ≤ 8796093022208) :
    Calls Tryd.prog 10 #[ptr s] w fun e w' => ∃ a c, e = .returned (.slice a L.length c) ∧ Aside (w'.ownsRow w.heap.size 29 3 (.slice a L.length c) L.length (flatT L)) ∧ Aside (Keeps Nowhere w w') := by
  refine (tickets_sc h hm).mono ?_
  rintro e w' ⟨v, rfl, o, k⟩
  obtain ⟨a, c, rfl⟩ := owns_sl o.it
  exact ⟨a, c, rfl, o, k⟩
end Go.Proofs.YtnohcbdnhpaafaaDoor

/-
  culvertlaw13: framed, said, and what data hands in
-/
namespace Go.Proofs.YtnohcbdnhpaafaaDoor
open Go.RowKit

variable {A : Nat → Addr} {w w' w0 : World} {own own' : Nat → Nat} {I : Nat → Prop}

/-- a frame's flags, out of a call's number -/
def flg (j : Nat) : Int := IntKind.wrap .u16 j
def byt (j : Nat) : Int := (j : Int) % 256
abbrev fdv (id j : Nat) (v : Value) : Value := .agg #[.int .u8 0, .int .u8 0, .int .u16 (flg j), .int .u32 id, .int .u32 2, v]
def fby (id j : Nat) : List Value := [.int .u8 (byt id), .int .u8 (byt j)]

theorem framed_at (id j : Nat) (w : World) :
    Calls Tryd.prog 24 #[.int .u32 id, .int .i64 j] w fun e w' => ∃ g, e = .returned (fdv id j (.slice (some ⟨g, 0, none⟩) 2 2)) ∧ Aside (w.heap.size ≤ g ∧ Cells w' g 5 (fby id j)) ∧ Aside (Keeps Nowhere w w') := by
  obtain ⟨w1, hw1⟩ : ∃ w1, w1 = w.alloc (.cells #[.int .u8 0, .int .u8 0, .int .u16 0, .int .u32 0, .int .u32 0, .slice none 0 0] 46) := ⟨_, rfl⟩
  obtain ⟨g, hg⟩ : ∃ g, g = w.heap.size := ⟨_, rfl⟩
  have k1 : Keeps Nowhere w w1 := by rw [hw1]; exact (Keeps.refl _ _).alloc _
  have hc : Cells w1 g 46 [.int .u8 0, .int .u8 0, .int .u16 0, .int .u32 0, .int .u32 0, .slice none 0 0] := by rw [hw1, hg]; exact Cells.new w _ _
  have KA : ∀ ob, Cells (w1.alloc ob) g 46 [.int .u8 0, .int .u8 0, .int .u16 0, .int .u32 0, .int .u32 0, .slice none 0 0] := fun ob => hc.later ((Keeps.refl Nowhere _).alloc ob) (fun x => x)
  have a0 : ∀ ob, (w1.alloc ob).cell? ⟨g, 0, none⟩ = some (.int .u8 0) := fun ob => (KA ob).cell 0
  have a1 : ∀ ob, (w1.alloc ob).cell? ⟨g, 1, none⟩ = some (.int .u8 0) := fun ob => (KA ob).cell 1
  have a2 : ∀ ob, (w1.alloc ob).cell? ⟨g, 2, none⟩ = some (.int .u16 0) := fun ob => (KA ob).cell 2
  have a3 : ∀ ob, (w1.alloc ob).cell? ⟨g, 3, none⟩ = some (.int .u32 0) := fun ob => (KA ob).cell 3
  have a4 : ∀ ob, (w1.alloc ob).cell? ⟨g, 4, none⟩ = some (.int .u32 0) := fun ob => (KA ob).cell 4
  have a5 : ∀ ob, (w1.alloc ob).cell? ⟨g, 5, none⟩ = some (.slice none 0 0) := fun ob => (KA ob).cell 5
  have af : ∀ ob i, (w1.alloc ob).frozen? ⟨g, i, none⟩ = false := fun ob => (KA ob).frozen
  have G := Aside.mk (And.intro k1 (And.intro hg hc))
  clear k1 hc KA
  go_enter Tryd.func24, Tryd.ntmps24
  go_upto_region 1 with fail
  rw [← hg, ← hw1]
  clear hw1 hg
  go_wp2
  obtain ⟨k1, hg, hc⟩ := G.it
  have hlt := hc.lt
  have hb : Cells (w1.alloc (.cells #[.int .u8 ((id : Int) % 256), .int .u8 ((j : Int) % 256)] 5)) w1.heap.size 5 (fby id j) := Cells.new w1 _ _
  have k2 := k1.alloc (.cells #[.int .u8 ((id : Int) % 256), .int .u8 ((j : Int) % 256)] 5)
  have ng : ¬ g < w.heap.size := by omega
  refine bodyPost_ret (v := fdv id j (.slice (some ⟨w1.heap.size, 0, none⟩) 2 2)) (by simp [results, Tryd.results24, go_sem, a0, a1, a2, a3, a4, a5, fdv, flg]) rfl ⟨_, rfl, ⟨k1.size, ?_⟩, ⟨?_⟩⟩
  · refine (((((hb.setOther _ _ ?_).setOther _ _ ?_).setOther _ _ ?_).setOther _ _ ?_).setOther _ _ ?_).setOther _ _ ?_
    all_goals (intro e; have : w1.heap.size = g := e; omega)
  · exact (((((k2.setCell _ _ (fun h => absurd h ng)).setCell _ _ (fun h => absurd h ng)).setCell _ _ (fun h => absurd h ng)).setCell _ _ (fun h => absurd h ng)).setCell _ _ (fun h => absurd h ng)).setCell _ _ (fun h => absurd h ng)

def saidL (bs : List Bool) (j : Nat) : Bool := bs.isEmpty || bs.getD (j % bs.length) false
def RdBo (w : World) (v : Value) (bs : List Bool) : Prop := ReadsOff Nowhere w v (bs.map Value.bool)
theorem said_at (v : Value) (bs : List Bool) (h : RdBo w v bs) (hb : bs.length ≤ 9223372036854775807) (j : Nat) (hj : j ≤ 9223372036854775807) :
    Calls Tryd.prog 37 #[v, .int .i64 j] w fun e w' => e = .returned (.bool (saidL bs j)) ∧ w' = w := by
  obtain ⟨a, c, rfl, hc, hr⟩ := h
  rw [List.length_map] at hc ⊢
  obtain ⟨n, hn⟩ : ∃ n, n = bs.length := ⟨_, rfl⟩
  by_cases h0 : n = 0
  · have e : bs = [] := List.eq_nil_of_length_eq_zero (by omega)
    subst e
    clear hr
    rw [List.length_nil] at *
    go_enter Tryd.func37, Tryd.ntmps37
    go_wp2
    go_ret
    exact ⟨rfl, rfl⟩
  · have hjn : j % n < n := Nat.mod_lt _ (by omega)
    have hlt : j % n < bs.length := by omega
    obtain ⟨u, hu⟩ : ∃ u, bs[j % n]? = some u := ⟨bs[j % n], List.getElem?_eq_getElem hlt⟩
    obtain ⟨x, rfl, _, hx⟩ := hr (j % n) (.bool u) (by simp [hu])
    have es : saidL bs j = u := by
      unfold saidL
      rw [← hn, List.getD_eq_getElem?_getD, hu]
      cases bs
      · simp at hlt
      · rfl
    rw [← hn] at hb hc
    rw [← hn, es]
    clear es hu hr hlt hn
    have h0' : ¬ (n : Int) = 0 := by omega
    have r1 : (0 : Int) ≤ (j : Int) % (n : Int) := by omega
    have r2 : (j : Int) % (n : Int) < (n : Int) := by omega
    go_enter Tryd.func37, Tryd.ntmps37
    go_wp2
    all_goals first
      | exact absurd rfl h0
      | (exfalso; omega)
      | (go_ret; refine ⟨?_, rfl⟩; show Ending.returned (.bool ((n : Int) == 0 || u)) = _; simp [h0])

/-- what data was asked, and what it says: its boxes' owner is 7, its list's 8 -/
structure Dt (w0 : World) (own : Nat → Nat) (w : World) (cb ob ab : Nat) (l : List Nat) (vo vm : Value) (bo bm : List Bool) : Prop where
  g : Ground w0.heap.size w0 own w
  cb : CellsO own 7 w cb 51 [ptr ab]
  ob : ∃ a b c d e, CellsO own 7 w ob 32 [a, b, c, d, e, vo, vm]
  ab : ∃ v, CellsO own 7 w ab 39 [v] ∧ OwR own 8 w 27 1 v l.length (uv l)
  ro : RdBo w0 vo bo
  rm : RdBo w0 vm bm
theorem Dt.sn {cb ob ab : Nat} {l : List Nat} {vo vm : Value} {bo bm : List Bool} (h : Dt w0 own w cb ob ab l vo vm bo bm) (q : Sn I own w own' w') (h0 : ¬ I 0) (h7 : ¬ I 7) (h8 : ¬ I 8) : Dt w0 own' w' cb ob ab l vo vm bo bm := by
  obtain ⟨a, b, c, d, e, ho⟩ := h.ob
  obtain ⟨v, hv, hr⟩ := h.ab
  exact ⟨h.g.sn q h0, h.cb.sn q h7, ⟨a, b, c, d, e, ho.sn q h7⟩, ⟨v, hv.sn q h7, hr.sn q h8⟩, h.ro, h.rm⟩
theorem Dt.quiet {cb ob ab : Nat} {l : List Nat} {vo vm : Value} {bo bm : List Bool} (h : Dt w0 own w cb ob ab l vo vm bo bm) (k : Keeps Nowhere w w') : Dt w0 own w' cb ob ab l vo vm bo bm := h.sn (I := fun _ => False) (Sn.same k) (fun x => x) (fun x => x) (fun x => x)
end Go.Proofs.YtnohcbdnhpaafaaDoor

/-
  culvertlaw13: what data answers
-/
namespace Go.Proofs.YtnohcbdnhpaafaaDoor
open Go.RowKit

variable {A : Nat → Addr} {w w' w0 W w2 : World} {own own' : Nat → Nat} {I : Nat → Prop} {cb ob ab b4 id : Nat} {l : List Nat} {vo vm v v' : Value} {bo bm : List Bool}

theorem step_appendG {P : Program} {W : World} {ops : Array Oper} {o : Oper} {a : Act} {K : Act → World → Prop} {Q : Exit → Act → World → Prop} {E : Prop} (tmp : Tmp) (hdst : o.dst = some tmp) (hgd : o.guard = none) (s x : Operand) (t : TypeId)
    (ho : o.op = .call { callee := .builtin .append, args := #[s, x], argTypes := #[t, t] }) (e : TypeId) (z : Value) (k bytes : Nat) (ht : P.underlying t = some (.slice e)) (hinfo : (P.info? e).map (fun i => (i.zero, i.size, i.bytes)) = some (some z, k, bytes))
    (hzs : z.cells.size = k) (h0 : 0 < k) (v : Value) (n : Nat) (xs : List Value) (hown : W.ownsRow 0 e k v n xs) (sv : Value) (m : Nat) (ys : List Value) (hm : 0 < m) (hr : ReadsK k W sv m ys) (h1 : ∀ u ∈ ys, u.oneCell' = true)
    (hb : (n + m) * bytes ≤ 140737488355328) (h63 : n + m ≤ maxLen) (hs : a.eval s = v) (hx : a.eval x = sv)
    (h : ∀ q l c w', Aside (w'.ownsRow 0 e k (.slice q l c) (n + m) (xs ++ ys)) → Aside (Split v (.slice q l c) m W w') → K (a.put (some tmp) (.slice q l c)) w') : if Region.wanted o (yielded ops a.tmps) = true then Oper.wp P o a W K Q else E := by
  obtain ⟨i, hi, hz0, hz1, hz2⟩ := info_parts hinfo
  obtain ⟨v', w', run, o', g'⟩ := run_appendS (P := P) W t e i z k bytes ht hi hz0 hz1 hz2 hzs h0 v n xs hown sv m ys hm hr h1 hb h63
  obtain ⟨p, q, r, rfl⟩ := owns_shapeK o'
  exact step_appendK tmp hdst hgd s x t ho v sv _ w' hs hx run (h p q r w' ⟨o'⟩ ⟨g'⟩)

theorem cells_ne {a b : Nat} {e e' : TypeId} {xs ys : List Value} (h : Cells w a e xs) (h' : Cells w b e' ys) (hne : e ≠ e') : a ≠ b := by
  intro x
  subst x
  have h2 := h.symm.trans h'
  injection h2 with h2
  injection h2 with _ h2
  exact hne h2

theorem app_dt {T : TypeId} {xs : List Value} (h : Dt w0 own w cb ob ab l vo vm bo bm) (hc : CellsO own 9 w b4 T xs) (hv : CellsO own 7 w ab 39 [v]) (hr : OwR own 8 w 27 1 v l.length (uv l)) (hk : Keeps Nowhere w W)
    (ho : w2.ownsRow 0 27 1 v' (l.length + 1) (uv l ++ [.int .u32 id])) (sp : Split v v' 1 W w2) :
    w2.cell? ⟨cb, 0, none⟩ = some (ptr ab) ∧ w2.cell? ⟨ab, 0, none⟩ = some v ∧ w2.frozen? ⟨ab, 0, none⟩ = false ∧
    ∃ own2, Dt w0 own2 (w2.setCell ⟨ab, 0, none⟩ v') cb ob ab (l ++ [id]) vo vm bo bm ∧ CellsO own2 9 (w2.setCell ⟨ab, 0, none⟩ v') b4 T xs ∧ Sn (fun k => k = 7 ∨ k = 8) own w own2 (w2.setCell ⟨ab, 0, none⟩ v') := by
  obtain ⟨r2, q2⟩ := OwR.app hr hk ho sp
  have cv := hv.sn q2 (by omega)
  have cc := h.cb.sn q2 (by omega)
  obtain ⟨a, b, c, d, e, ho2⟩ := h.ob
  have co := ho2.sn q2 (by omega)
  have q3 : Sn (fun k => k = 7) (give own w.heap.size 8) w2 (give own w.heap.size 8) (w2.setCell ⟨ab, 0, none⟩ v') := ⟨fun _ _ => rfl, (Keeps.refl _ _).setCell _ _ (fun _ => cv.2)⟩
  have n1 : cb ≠ ab := cells_ne cc.1 cv.1 (by decide)
  have n2 : ob ≠ ab := cells_ne co.1 cv.1 (by decide)
  refine ⟨cc.1.cell 0, cv.1.cell 0, cv.1.frozen 0, _, ⟨(h.g.sn q2 (by omega)).sn q3 (by omega), ⟨cc.1.setOther _ _ n1, cc.2⟩, ⟨a, b, c, d, e, co.1.setOther _ _ n2, co.2⟩, ⟨v', ⟨cv.1.setCell 0 v', cv.2⟩, ?_⟩, h.ro, h.rm⟩, (hc.sn q2 (by omega)).sn q3 (by omega), (q2.mono (fun _ x => .inr x)).trans (q3.mono (fun _ x => .inl x))⟩
  have r3 := r2.sn q3 (by omega)
  have e1 : uv (l ++ [id]) = uv l ++ [.int .u32 id] := by simp [uv]
  rw [e1, List.length_append]
  exact r3

abbrev zero6 : List Value := [.int .u8 0, .int .u8 0, .int .u16 0, .int .u32 0, .int .u32 0, .slice none 0 0]
theorem u32info : (Tryd.prog.info? 27).map (fun i => (i.zero, i.size, i.bytes)) = some (some (.int .u32 0), 1, 4) := by kernel_rfl

/-- a world of data's last line -/
structure Dx (w0 : World) (own : Nat → Nat) (w : World) (cb ob ab : Nat) (l : List Nat) (vo vm : Value) (bo bm : List Bool) (b4 : Nat) (W : World) : Prop where
  k : Keeps Nowhere w W
  d : Dt w0 own W cb ob ab l vo vm bo bm
  c : CellsO own 9 W b4 46 zero6
theorem Dx.cells (h : Aside (Dx w0 own w cb ob ab l vo vm bo bm b4 W)) : W.cell? ⟨ob, 5, none⟩ = some vo ∧ W.cell? ⟨ob, 6, none⟩ = some vm := by
  obtain ⟨a, b, c, d, e, ho⟩ := h.it.d.ob
  exact ⟨ho.1.cell 5, ho.1.cell 6⟩
theorem Dx.next (h : Dx w0 own w cb ob ab l vo vm bo bm b4 W) (k : Keeps Nowhere W w') : Dx w0 own w cb ob ab l vo vm bo bm b4 w' := ⟨h.k.trans k, h.d.quiet k, h.c.quiet k⟩
theorem Dx.said (h : Aside (Dx w0 own w cb ob ab l vo vm bo bm b4 W)) : RdBo W vo bo ∧ RdBo W vm bm := by
  have b := h.it.d.g.bel
  exact ⟨h.it.d.ro.below b, h.it.d.rm.below b⟩
theorem six_cells {T : TypeId} (h : Cells W b4 T zero6) : (W.cell? ⟨b4, 0, none⟩ = some (.int .u8 0) ∧ W.cell? ⟨b4, 1, none⟩ = some (.int .u8 0) ∧ W.cell? ⟨b4, 2, none⟩ = some (.int .u16 0) ∧ W.cell? ⟨b4, 3, none⟩ = some (.int .u32 0) ∧ W.cell? ⟨b4, 4, none⟩ = some (.int .u32 0) ∧ W.cell? ⟨b4, 5, none⟩ = some (.slice none 0 0)) ∧ ∀ j, W.frozen? ⟨b4, j, none⟩ = false :=
  ⟨⟨h.cell 0, h.cell 1, h.cell 2, h.cell 3, h.cell 4, h.cell 5⟩, h.frozen⟩

/-- a frame's six cells, all at once -/
def set6 (W : World) (b : Nat) (x0 x1 x2 x3 x4 x5 : Value) : World := (((((W.setCell ⟨b, 0, none⟩ x0).setCell ⟨b, 1, none⟩ x1).setCell ⟨b, 2, none⟩ x2).setCell ⟨b, 3, none⟩ x3).setCell ⟨b, 4, none⟩ x4).setCell ⟨b, 5, none⟩ x5
theorem keeps6 {S : Nat → Prop} {x0 x1 x2 x3 x4 x5 : Value} (h : Keeps S w W) (hg : b4 < w.heap.size → S b4) : Keeps S w (set6 W b4 x0 x1 x2 x3 x4 x5) := by
  have h0 := h.setCell ⟨b4, 0, none⟩ x0 hg
  have h1 := h0.setCell ⟨b4, 1, none⟩ x1 hg
  have h2 := h1.setCell ⟨b4, 2, none⟩ x2 hg
  have h3 := h2.setCell ⟨b4, 3, none⟩ x3 hg
  have h4 := h3.setCell ⟨b4, 4, none⟩ x4 hg
  exact h4.setCell ⟨b4, 5, none⟩ x5 hg
theorem other6 {g : Nat} {e : TypeId} {xs : List Value} {x0 x1 x2 x3 x4 x5 : Value} (h : Cells W g e xs) (hg : g ≠ b4) : Cells (set6 W b4 x0 x1 x2 x3 x4 x5) g e xs := by
  have k : Keeps (fun c => c = b4) W (set6 W b4 x0 x1 x2 x3 x4 x5) := keeps6 (Keeps.refl _ _) (fun _ => rfl)
  exact h.later k hg
theorem box6 {e : TypeId} {y0 y1 y2 y3 y4 y5 x0 x1 x2 x3 x4 x5 : Value} (h : Cells W b4 e [y0, y1, y2, y3, y4, y5]) : Cells (set6 W b4 x0 x1 x2 x3 x4 x5) b4 e [x0, x1, x2, x3, x4, x5] := by
  have h0 := h.setCell 0 x0
  have h1 := h0.setCell 1 x1
  have h2 := h1.setCell 2 x2
  have h3 := h2.setCell 3 x3
  have h4 := h3.setCell 4 x4
  exact h4.setCell 5 x5
theorem set6_cells {x0 x1 x2 x3 x4 x5 : Value} (hne : ob ≠ b4) (h : W.cell? ⟨ob, 5, none⟩ = some vo ∧ W.cell? ⟨ob, 6, none⟩ = some vm) :
    ((((((W.setCell ⟨b4, 0, none⟩ x0).setCell ⟨b4, 1, none⟩ x1).setCell ⟨b4, 2, none⟩ x2).setCell ⟨b4, 3, none⟩ x3).setCell ⟨b4, 4, none⟩ x4).setCell ⟨b4, 5, none⟩ x5).cell? ⟨ob, 5, none⟩ = some vo ∧
    ((((((W.setCell ⟨b4, 0, none⟩ x0).setCell ⟨b4, 1, none⟩ x1).setCell ⟨b4, 2, none⟩ x2).setCell ⟨b4, 3, none⟩ x3).setCell ⟨b4, 4, none⟩ x4).setCell ⟨b4, 5, none⟩ x5).cell? ⟨ob, 6, none⟩ = some vm := by
  have k : Keeps (fun c => c = b4) W (set6 W b4 x0 x1 x2 x3 x4 x5) := keeps6 (Keeps.refl _ _) (fun _ => rfl)
  have key : ∀ X : World, Keeps (fun c => c = b4) W X → X.cell? ⟨ob, 5, none⟩ = some vo ∧ X.cell? ⟨ob, 6, none⟩ = some vm := fun X k => by
    have hb := k.block ob (World.block_lt_of_cell? W _ h.1) hne
    exact ⟨(World.cell?_of_block hb).trans h.1, (World.cell?_of_block hb).trans h.2⟩
  exact key (set6 W b4 x0 x1 x2 x3 x4 x5) k
set_option maxHeartbeats 2000000 in
theorem data1 (h : Dt w0 own w cb ob ab l vo vm bo bm) (id : Nat) (hl : (l.length + 1) * 4 ≤ 140737488355328) (hbo : bo.length ≤ 9223372036854775807) (hbm : bm.length ≤ 9223372036854775807) :
    Calls Tryd.prog 36 #[.int .u32 id, ptr cb, ptr ob] w fun e w' => ∃ own' g, e = .returned (.tuple #[fdv id l.length (.slice (some ⟨g, 0, none⟩) 2 2), .bool (saidL bo l.length), .bool (saidL bm l.length)]) ∧ Aside (Dt w0 own' w' cb ob ab (l ++ [id]) vo vm bo bm) ∧ Aside (CellsO own' 9 w' g 5 (fby id l.length)) ∧ Aside (Sn (fun k => k = 7 ∨ k = 8) own w own' w') := by
  obtain ⟨b4, hb4⟩ : ∃ b4, b4 = w.heap.size := ⟨_, rfl⟩
  obtain ⟨w1, hw1⟩ : ∃ w1, w1 = w.alloc (.cells #[.int .u8 0, .int .u8 0, .int .u16 0, .int .u32 0, .int .u32 0, .slice none 0 0] 46) := ⟨_, rfl⟩
  obtain ⟨own1, ho1⟩ : ∃ own1, own1 = give own w.heap.size 9 := ⟨_, rfl⟩
  have q1 : Sn (fun _ => False) own w own1 w1 := by rw [ho1, hw1]; exact Sn.quiet ((Keeps.refl _ _).alloc _) 9
  have h1 : Dt w0 own1 w1 cb ob ab l vo vm bo bm := h.sn q1 (fun x => x) (fun x => x) (fun x => x)
  have c4 : CellsO own1 9 w1 b4 46 zero6 := by rw [ho1, hw1, hb4]; exact ⟨Cells.new w _ _, give_new (Nat.le_refl _)⟩
  obtain ⟨v, hv, hr⟩ := h1.ab
  obtain ⟨a, n', c, rfl⟩ := owns_shapeK hr.1
  obtain ⟨n, hn⟩ : ∃ n, n = l.length := ⟨_, rfl⟩
  obtain rfl : n' = n := by
    rcases hr.1.2 with ⟨x, y⟩ | ⟨_, _, _, x, _⟩
    · injection x with _ x; omega
    · injection x with _ x; omega
  have x0 : w1.cell? ⟨cb, 0, none⟩ = some (ptr ab) := h1.cb.1.cell 0
  have x1 : w1.cell? ⟨ab, 0, none⟩ = some (.slice a n' c) := hv.1.cell 0
  have KA : ∀ ob, Keeps Nowhere w1 (w1.alloc ob) := fun ob => (Keeps.refl _ _).alloc ob
  have y0 : ∀ ob, (w1.alloc ob).cell? ⟨cb, 0, none⟩ = some (ptr ab) := fun ob => (h1.cb.1.later (KA ob) (fun x => x)).cell 0
  have y1 : ∀ ob, (w1.alloc ob).cell? ⟨ab, 0, none⟩ = some (.slice a n' c) := fun ob => (hv.1.later (KA ob) (fun x => x)).cell 0
  have OW := Aside.mk (fun W (k : Keeps Nowhere w1 W) => owns_later hr.1 k (fun _ _ x => x))
  have RN := Aside.mk ((readsK_new w1 27 [.int .u32 id]).later ((Keeps.refl Nowhere _).drew) (fun _ _ x => x))
  have AP := Aside.mk (fun W w2 v' => app_dt (W := W) (w2 := w2) (v' := v') (id := id) h1 c4 hv hr)
  have KA := Aside.mk KA
  have Q1 := Aside.mk q1
  have HB4 : Aside (¬ b4 < w.heap.size) := ⟨by omega⟩
  have HN := Aside.mk hn
  rw [← hn] at hl ⊢
  have HL := Aside.mk hl
  obtain ⟨uo, huo⟩ : ∃ u, u = saidL bo n' := ⟨_, rfl⟩
  obtain ⟨um, hum⟩ : ∃ u, u = saidL bm n' := ⟨_, rfl⟩
  rw [← huo, ← hum]
  have HU := Aside.mk (And.intro huo hum)
  clear huo hum
  have hl' : (n' : Int) ≤ 9223372036854775807 := by omega
  have HB := Aside.mk (And.intro hbo hbm)
  clear h h1 c4 hv hr q1 hl ho1 hbo hbm hn
  go_enter Tryd.func36, Tryd.ntmps36
  go_upto_region 1 with fail
  rw [← hb4, ← hw1]
  clear hb4 hw1
  go_upto_region 2 with fail
  go_cut [] (fun wc => ∃ own2, Aside (Dt w0 own2 wc cb ob ab (l ++ [id]) vo vm bo bm ∧ CellsO own2 9 wc b4 46 zero6) ∧ Aside (Sn (fun k => k = 7 ∨ k = 8) own w own2 wc))
  case first =>
    go_region_law (refine step_appendG 18 rfl rfl (.tmp 15) (.tmp 17) 39 rfl 27 (.int .u32 0) 1 4 Tryd.underlying39 u32info rfl (by omega) _ _ _ (OW.it _ (KA.it _).drew) _ 1 [.int .u32 id] (by omega) RN.it (by intro u hu; simp at hu; subst hu; rfl) (by have := HL.it; have := HN.it; omega) (by have := HL.it; have := HN.it; unfold maxLen; omega) rfl rfl ?_; intro q2 l2 c2 w2 o2 s2; have AA := Aside.mk (AP.it _ _ _ (KA.it _).drew o2.it s2.it); have z0 := AA.it.1; have z1 := AA.it.2.1; have z2 := AA.it.2.2.1)
    all_goals go_wp2_with fail
    all_goals go_meet
    all_goals case rel =>
      obtain ⟨own2, d2, e2, f2⟩ := AA.it.2.2.2
      exact ⟨own2, ⟨d2, e2⟩, ⟨(Q1.it.mono (fun _ x => x.elim)).trans f2⟩⟩
  case rest =>
    obtain ⟨own2, D2, Q2⟩ := hcut
    have X2 : Aside (Dx w0 own2 wc cb ob ab (l ++ [id]) vo vm bo bm b4 wc) := ⟨⟨Keeps.refl _ _, D2.it.1, D2.it.2⟩⟩
    have X2d : Aside (Dx w0 own2 wc cb ob ab (l ++ [id]) vo vm bo bm b4 wc.drew) := ⟨X2.it.next (Keeps.refl _ _).drew⟩
    have FR : Aside (∀ W, Aside (Dx w0 own2 wc cb ob ab (l ++ [id]) vo vm bo bm b4 W) → Calls Tryd.prog 24 #[.int .u32 id, .int .i64 n'] W fun e w' => ∃ g, e = .returned (fdv id n' (.slice (some ⟨g, 0, none⟩) 2 2)) ∧ Aside (Dx w0 own2 wc cb ob ab (l ++ [id]) vo vm bo bm b4 w') ∧ Aside (wc.heap.size ≤ g ∧ Cells w' g 5 (fby id n')) ∧
        (w'.cell? ⟨b4, 0, none⟩ = some (.int .u8 0) ∧ w'.cell? ⟨b4, 1, none⟩ = some (.int .u8 0) ∧ w'.cell? ⟨b4, 2, none⟩ = some (.int .u16 0) ∧ w'.cell? ⟨b4, 3, none⟩ = some (.int .u32 0) ∧ w'.cell? ⟨b4, 4, none⟩ = some (.int .u32 0) ∧ w'.cell? ⟨b4, 5, none⟩ = some (.slice none 0 0)) ∧ ∀ j, w'.frozen? ⟨b4, j, none⟩ = false) := ⟨fun W h => by
      refine (framed_at id n' W).mono ?_
      rintro e w' ⟨g, rfl, h1, h2⟩
      have h3 := h.it.next h2.it
      exact ⟨g, rfl, ⟨h3⟩, ⟨Nat.le_trans h.it.k.size h1.it.1, h1.it.2⟩, six_cells h3.c.1⟩⟩
    have hn9 : n' ≤ 9223372036854775807 := by have := hl'; omega
    have SO : Aside (∀ W, Aside (Dx w0 own2 wc cb ob ab (l ++ [id]) vo vm bo bm b4 W) → Calls Tryd.prog 37 #[vo, .int .i64 n'] W fun e w' => e = .returned (.bool uo) ∧ W = w') := ⟨fun W h => by rw [HU.it.1]; exact (said_at vo bo (Dx.said h).1 HB.it.1 n' hn9).mono (fun e w' x => ⟨x.1, x.2.symm⟩)⟩
    have SM : Aside (∀ W, Aside (Dx w0 own2 wc cb ob ab (l ++ [id]) vo vm bo bm b4 W) → Calls Tryd.prog 37 #[vm, .int .i64 n'] W fun e w' => e = .returned (.bool um) ∧ W = w') := ⟨fun W h => by rw [HU.it.2]; exact (said_at vm bm (Dx.said h).2 HB.it.2 n' hn9).mono (fun e w' x => ⟨x.1, x.2.symm⟩)⟩
    clear AP OW RN KA x0 x1 y0 y1
    have NOB : ob ≠ b4 := by
      obtain ⟨_, _, _, _, _, ho⟩ := D2.it.1.ob
      exact cells_ne ho.1 D2.it.2.1 (by decide)
    go_upto_region 3 with fail
    go_region_held_law (fun W => W.cell? ⟨ob, 5, none⟩ = some vo ∧ W.cell? ⟨ob, 6, none⟩ = some vm) (first | exact Dx.cells (by with_reducible assumption) | exact set6_cells NOB (Dx.cells (by with_reducible assumption))) (first
      | (go_at_call 37; with_reducible refine (SM.it _ (by with_reducible assumption)).mono ?_; rintro e w6 ⟨rfl, rfl⟩)
      | (go_at_call 37; with_reducible refine (SO.it _ (by with_reducible assumption)).mono ?_; rintro e w6 ⟨rfl, rfl⟩)
      | (go_at_call 24; with_reducible refine (FR.it _ (by with_reducible assumption)).mono ?_; rintro e w5 ⟨g5, rfl, X5, G5, ⟨s0, s1, s2, s3, s4, s5⟩, f5⟩))
    all_goals go_wp2_with fail
    have k5 := X5.it.k
    have d5 := X5.it.d
    have hb5 : own2 b4 = 9 := X5.it.c.2
    have hlt : b4 < wc.heap.size := D2.it.2.1.lt
    have ng : g5 ≠ b4 := by have := G5.it.1; omega
    refine bodyPost_ret (v := .tuple #[fdv id n' (.slice (some ⟨g5, 0, none⟩) 2 2), .bool uo, .bool um]) (by simp [results, Tryd.results36, go_sem, s0, s1, s2, s3, s4, s5]) rfl ⟨give own2 wc.heap.size 9, g5, rfl, ?_⟩
    have q5 : Sn (fun k => k = 9) own2 wc (give own2 wc.heap.size 9) (set6 w5 b4 (.int .u8 0) (.int .u8 0) (.int .u16 (flg n')) (.int .u32 id) (.int .u32 2) (.slice (some ⟨g5, 0, none⟩) 2 2)) := ⟨fun _ h => give_old h, keeps6 k5.any (fun _ => hb5)⟩
    have nb := HB4.it
    have d6 := D2.it.1.sn q5 (by omega) (by omega) (by omega)
    have c6 : CellsO (give own2 wc.heap.size 9) 9 (set6 w5 b4 (.int .u8 0) (.int .u8 0) (.int .u16 (flg n')) (.int .u32 id) (.int .u32 2) (.slice (some ⟨g5, 0, none⟩) 2 2)) g5 5 (fby id n') := ⟨other6 G5.it.2 ng, give_new G5.it.1⟩
    have q6 : Sn (fun k => k = 7 ∨ k = 8) own w (give own2 wc.heap.size 9) (set6 w5 b4 (.int .u8 0) (.int .u8 0) (.int .u16 (flg n')) (.int .u32 id) (.int .u32 2) (.slice (some ⟨g5, 0, none⟩) 2 2)) :=
      ⟨fun k hk => (give_old (Nat.lt_of_lt_of_le hk Q2.it.keeps.size)).trans (Q2.it.agree k hk), keeps6 (Q2.it.keeps.trans k5.any) (fun h => absurd h nb)⟩
    exact ⟨⟨d6⟩, ⟨c6⟩, ⟨q6⟩⟩
end Go.Proofs.YtnohcbdnhpaafaaDoor

