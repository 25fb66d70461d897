/-
  a lane above the ground; culvertlaw11.fixed
-/
import Derived.Test.YtialmmobkmdfpaaDoorLnF
import Derived.Test.YtialmmobkmdfpaaDoorLnG
namespace Go.Proofs.YtialmmobkmdfpaaDoor
open Go.RowKit

variable {A : Nat → Addr} {w w' w0 : World} {own own' : Nat → Nat} {p m : Nat} {L : List Tk} {I : Nat → Prop}

structure Ln (A : Nat → Addr) (w0 : World) (own : Nat → Nat) (w : World) (p : Nat) (L : List Tk) (m : Nat) : Prop where
  g : Gl A w0 own w
  l : ∃ Z, LnO own 1 w p Z m ∧ Z.map (·.2) = L
theorem Ln.sn (h : Ln A w0 own w p L m) (s : Sn I own w own' w') (h0 : ¬ I 0) (hi : ∀ k, In4 1 k → ¬ I k) : Ln A w0 own' w' p L m := by
  obtain ⟨Z, h1, h2⟩ := h.l
  exact ⟨h.g.sn s h0, Z, h1.sn s hi, h2⟩
theorem Ln.quiet (h : Ln A w0 own w p L m) (k : Keeps Nowhere w w') : Ln A w0 own w' p L m := h.sn (I := fun _ => False) (Sn.same k) (fun x => x) (fun _ _ x => x)
theorem Ln.bound (h : Ln A w0 own w p L m) : L.length ≤ m := by
  obtain ⟨Z, ⟨fp, mb, F, h1⟩, rfl⟩ := h.l
  have := FifoM.room h1.fifo
  rw [qz_len] at this
  simpa using this
theorem not_in4_0 : ¬ In4 1 0 := fun h => by have := h.1; omega
theorem newX (h : Gl A w0 own w) : Calls Tryd.prog 9 #[] w fun e w' => ∃ p own', e = .returned (ptr p) ∧ Aside (Ln A w0 own' w' p [] 0) := by
  refine (new_at w own 1).mono ?_
  rintro e w' ⟨p, own', rfl, r⟩
  exact ⟨p, own', rfl, ⟨h.sn (I := fun _ => False) ⟨r.it.2.2, r.it.2.1.any⟩ (fun x => x), [], r.it.1, rfl⟩⟩
theorem putX (h : Ln A w0 own w p L m) (t : Tk) (ht : t.Wide) (hm : m < 8796093022208) :
    Calls Tryd.prog 16 #[ptr p, tkv t.k t.s t.v] w fun e w' => ∃ x own', e = .returned x ∧ Hid (Coded A x (putL L t).2) ∧ Aside (Ln A w0 own' w' p (putL L t).1 (m + 1)) ∧ Aside (Sn (In4 1) own w own' w') := by
  obtain ⟨Z, h1, rfl⟩ := h.l
  refine (put_at h1 h.g.st t ht hm).mono ?_
  rintro e w' ⟨x, rfl, hx, r⟩
  obtain ⟨own', Z', r1, r2, r3⟩ := r.it.it
  exact ⟨x, own', rfl, hx, ⟨⟨h.g.sn r3 not_in4_0, Z', r1, r2⟩⟩, ⟨r3⟩⟩
theorem nextX (t : Tk) (h : Ln A w0 own w p (t :: L) m) (hm : m ≤ 8796093022208) : Calls Tryd.prog 17 #[ptr p] w fun e w' => ∃ own', e = .returned (.tuple #[tkv t.k t.s t.v, .bool true]) ∧ Aside (Ln A w0 own' w' p L m) ∧ Aside (Sn (In4 1) own w own' w') := by
  obtain ⟨Z, h1, h2⟩ := h.l
  cases Z with
  | nil => cases h2
  | cons x Z =>
    obtain ⟨b, u⟩ := x
    rw [List.map_cons] at h2
    injection h2 with e1 e2
    simp only at e1
    subst e1
    refine (next_at b u h1 hm).mono ?_
    rintro e w' ⟨rfl, own', r⟩
    exact ⟨own', rfl, ⟨h.g.sn r.it.2 not_in4_0, Z, r.it.1, e2⟩, ⟨r.it.2⟩⟩
theorem nextE (h : Ln A w0 own w p [] m) : Calls Tryd.prog 17 #[ptr p] w fun e w' => e = .returned (.tuple #[tkv 0 0 0, .bool false]) ∧ Aside (Ln A w0 own w' p [] m) := by
  obtain ⟨Z, h1, h2⟩ := h.l
  obtain rfl : Z = [] := by simpa using h2
  refine (next_empty h1).mono ?_
  rintro e w' ⟨rfl, k⟩
  exact ⟨rfl, ⟨h.quiet k⟩⟩
theorem lenX (h : Ln A w0 own w p L m) : Calls Tryd.prog 11 #[ptr p] w fun e w' => e = .returned (.int .i64 L.length) ∧ Aside (Keeps Nowhere w w') := by
  obtain ⟨Z, h1, rfl⟩ := h.l
  refine (len_at h1).mono ?_
  rintro e w' ⟨rfl, k⟩
  exact ⟨by simp, ⟨k⟩⟩
theorem listX (h : Ln A w0 own w p L m) (hm : m ≤ 8796093022208) : Calls Tryd.prog 13 #[ptr p] w fun e w' => ∃ v, e = .returned v ∧ Aside (w'.ownsRow w.heap.size 30 3 v L.length (flatT L)) ∧ Aside (Keeps Nowhere w w') := by
  obtain ⟨Z, h1, rfl⟩ := h.l
  refine (list_at h1 hm).mono ?_
  rintro e w' ⟨v, rfl, o, k⟩
  exact ⟨v, rfl, ⟨by rw [List.length_map]; exact o.it⟩, k⟩

set_option maxRecDepth 100000 in
theorem hd_eql (w : World) (v v2 t t2 f f2 s s2 l l2 : Int) : (binOp .eql 52 (.agg #[.int .u8 v, .int .u8 t, .int .u16 f, .int .u32 s, .int .u32 l]) (.agg #[.int .u8 v2, .int .u8 t2, .int .u16 f2, .int .u32 s2, .int .u32 l2])).run Tryd.prog w = .ok (.bool (decide (v = v2 ∧ t = t2 ∧ f = f2 ∧ s = s2 ∧ l = l2))) w := by
  have hst : Tryd.prog.stoodInHeld 52 = false := by kernel_rfl
  have hfo : Tryd.prog.underlying 52 = some (.struct (Tryd.prog.fieldsOf 52)) := by kernel_rfl
  have h := run_equalIn_agg (P := Tryd.prog) (w := w) 9999 52 #[.int .u8 v, .int .u8 t, .int .u16 f, .int .u32 s, .int .u32 l] #[.int .u8 v2, .int .u8 t2, .int .u16 f2, .int .u32 s2, .int .u32 l2] hfo hst
  rw [run_eql_struct, h]
  clear h hst hfo
  simp only [Program.fieldsOf, Tryd.underlying52]
  by_cases e0 : v = v2
  · by_cases e1 : t = t2
    · by_cases e2 : f = f2
      · by_cases e3 : s = s2
        · by_cases e4 : l = l2
          · simp [Op.eqFields, go_sem, e0, e1, e2, e3, e4]
          · simp [Op.eqFields, go_sem, e0, e1, e2, e3, e4]
        · simp [Op.eqFields, go_sem, e0, e1, e2, e3]
      · simp [Op.eqFields, go_sem, e0, e1, e2]
    · simp [Op.eqFields, go_sem, e0, e1]
  · simp [Op.eqFields, go_sem, e0]
theorem wide_c (k : Int) (s v : Nat) (h : (decide (-9223372036854775808 ≤ k) && decide (k ≤ 9223372036854775807) && decide (s ≤ 4294967295) && decide (v ≤ 4294967295)) = true) : (⟨k, s, v⟩ : Tk).Wide := by
  simp only [Bool.and_eq_true, decide_eq_true_eq] at h
  exact ⟨h.1.1.1, h.1.1.2, h.1.2, h.2⟩

theorem q2 : (putL [] ⟨1, 5, 0⟩).1 = [⟨1, 5, 0⟩] ∧ (putL [] ⟨1, 5, 0⟩).2 = 0 := by decide
theorem q3 : (putL [⟨1, 5, 0⟩] ⟨3, 3, 10⟩).1 = [⟨1, 5, 0⟩, ⟨3, 3, 10⟩] ∧ (putL [⟨1, 5, 0⟩] ⟨3, 3, 10⟩).2 = 0 := by decide
theorem q4 : (putL [⟨1, 5, 0⟩, ⟨3, 3, 10⟩] ⟨5, 0, 7⟩).1 = [⟨1, 5, 0⟩, ⟨3, 3, 10⟩, ⟨5, 0, 7⟩] ∧ (putL [⟨1, 5, 0⟩, ⟨3, 3, 10⟩] ⟨5, 0, 7⟩).2 = 0 := by decide
theorem q5 : (putL [⟨1, 5, 0⟩, ⟨3, 3, 10⟩, ⟨5, 0, 7⟩] ⟨3, 3, 4⟩).1 = [⟨1, 5, 0⟩, ⟨3, 3, 14⟩, ⟨5, 0, 7⟩] ∧ (putL [⟨1, 5, 0⟩, ⟨3, 3, 10⟩, ⟨5, 0, 7⟩] ⟨3, 3, 4⟩).2 = 0 := by decide
theorem q6 : (putL [⟨1, 5, 0⟩, ⟨3, 3, 14⟩, ⟨5, 0, 7⟩] ⟨1, 5, 0⟩).1 = [⟨1, 5, 0⟩, ⟨3, 3, 14⟩, ⟨5, 0, 7⟩] ∧ (putL [⟨1, 5, 0⟩, ⟨3, 3, 14⟩, ⟨5, 0, 7⟩] ⟨1, 5, 0⟩).2 = 8 := by decide
theorem m14 : mayT ⟨3, 3, 14⟩ = 0 := by decide
theorem f14 : fr6 ⟨3, 3, 14⟩ = fv6 1 0 3 14 := by rw [fr6, if_pos m14]; rfl
theorem rdT_two (w : World) (t u : Tk) : RdT (w.alloc (.cells #[.int .i64 t.k, .int .u32 t.s, .int .u32 t.v, .int .i64 u.k, .int .u32 u.s, .int .u32 u.v] 30)) (.slice (some ⟨w.heap.size, 0, none⟩) 2 2) [t, u] := by
  refine ⟨rfl, _, 2, rfl, Nat.le_refl _, by unfold maxLen; omega, fun e => (by cases e), fun j v hj => ⟨w.heap.size, 0, rfl, ?_⟩⟩
  have := (Cells.new w 30 (flatT [t, u])).cell j
  rw [hj] at this
  rw [Nat.zero_add]
  exact this

set_option maxHeartbeats 2000000 in
theorem fixed_ok (h : St11 A w) : Calls Tryd.prog 8 #[] w fun e w' => e = .returned (.bool true) ∧ Aside (Keeps Nowhere w w') := by
  have NW := Aside.mk (newX (Gl.start h))
  clear h
  go_enter Tryd.func8, Tryd.ntmps8
  go_upto_region 4 with (first | (go_at_call 9; refine NW.it.mono ?_; rintro e w1 ⟨p, own1, rfl, L1⟩) | fail)
  go_upto_region 5 with (first
    | (go_at_call 16; refine (putX L3.it ⟨5, 0, 7⟩ (wide_c _ _ _ (by decide)) (by decide)).mono ?_; rintro e w4 ⟨x4, own4, rfl, hx4, L4, _⟩; rw [q4.1] at L4; rw [q4.2] at hx4)
    | (go_at_call 16; refine (putX L2.it ⟨3, 3, 10⟩ (wide_c _ _ _ (by decide)) (by decide)).mono ?_; rintro e w3 ⟨x3, own3, rfl, hx3, L3, _⟩; rw [q3.1] at L3; rw [q3.2] at hx3)
    | (go_at_call 16; refine (putX L1.it ⟨1, 5, 0⟩ (wide_c _ _ _ (by decide)) (by decide)).mono ?_; rintro e w2 ⟨x2, own2, rfl, hx2, L2, _⟩; rw [q2.1] at L2; rw [q2.2] at hx2)
    | fail)
  obtain rfl : x2 = .nilIface := Coded.zero hx2
  obtain rfl : x3 = .nilIface := Coded.zero hx3
  obtain rfl : x4 = .nilIface := Coded.zero hx4
  clear hx2 hx3 hx4 L1 L2 L3
  go_upto_region 6 with (first
    | (go_at_call 16; refine (putX L5.it ⟨1, 5, 0⟩ (wide_c _ _ _ (by decide)) (by decide)).mono ?_; rintro e w6 ⟨x6, own6, rfl, hx6, L6, _⟩; rw [q6.1] at L6; rw [q6.2] at hx6)
    | (go_at_call 16; refine (putX L4.it ⟨3, 3, 4⟩ (wide_c _ _ _ (by decide)) (by decide)).mono ?_; rintro e w5 ⟨x5, own5, rfl, hx5, L5, _⟩; rw [q5.1] at L5; rw [q5.2] at hx5)
    | fail)
  obtain rfl : x5 = .nilIface := Coded.zero hx5
  have CD := Aside.mk (code_of L6.it.g.st.s hx6)
  obtain ⟨a6, rfl⟩ := Coded.pos hx6 (by decide)
  have FR := Aside.mk (frameT (A := A) ⟨3, 3, 14⟩ (wide_c _ _ _ (by decide)) L6.it.g.st)
  rw [f14, m14] at FR
  clear hx5 hx6 L4 L5
  go_upto_region 8 with (first | (go_at_call 23; refine CD.it.mono ?_; rintro e w7 ⟨rfl, hw7⟩; subst hw7) | fail)
  go_upto_region 9 with (first | (go_at_call 22; refine FR.it.mono ?_; rintro e w8 ⟨x8, rfl, hx8, k8⟩) | fail)
  obtain rfl : x8 = .nilIface := Coded.zero hx8
  obtain ⟨W9, hW9⟩ : ∃ W9, W9 = w8.alloc (fbox6 1 0 3 14) := ⟨_, rfl⟩
  rw [show w8.alloc (.cells #[.int .u8 0, .int .u8 1, .int .u16 0, .int .u32 3, .int .u32 14, .slice none 0 0] 57) = W9 from hW9.symm]
  have K9 : Keeps Nowhere w7 W9 := by rw [hW9]; exact k8.it.alloc _
  have B9 : Aside (CellsO (give own6 w7.heap.size 9) 9 W9 w8.heap.size 57 (fv6 1 0 3 14)) := ⟨by rw [hW9]; exact Cells.new _ _ _, give_new k8.it.size⟩
  have L9 := L6.it.sn (I := fun _ => False) (Sn.quiet K9 9) (fun x => x) (fun _ _ x => x)
  have NX := Aside.mk (nextX (t := ⟨1, 5, 0⟩) L9 (by decide))
  clear L9 K9
  clear hW9 hx8 k8 CD FR L6
  go_upto_region 10 with (first | (go_at_call 17; refine NX.it.mono ?_; rintro e w10 ⟨own10, rfl, L10, S10⟩) | fail)
  obtain ⟨W11, hW11⟩ : ∃ W11, W11 = w10.alloc (tbox 1 5 0) := ⟨_, rfl⟩
  rw [show w10.alloc (.cells #[.int .i64 1, .int .u32 5, .int .u32 0] 30) = W11 from hW11.symm]
  have K11 : Aside (Keeps Nowhere w10 W11) := ⟨by rw [hW11]; exact (Keeps.refl _ _).alloc _⟩
  have C11 : Aside (Cells W11 w10.heap.size 30 [.int .i64 1, .int .u32 5, .int .u32 0]) := ⟨by rw [hW11]; exact Cells.new _ _ _⟩
  have B11 := Aside.mk ((B9.it.sn S10.it (by unfold In4; omega)).1.later K11.it (fun x => x))
  have L11 := Aside.mk (L10.it.quiet K11.it)
  have LS := Aside.mk (listX L11.it (by decide))
  have SM := Aside.mk (fun W v (h : RdT W v [⟨3, 3, 14⟩, ⟨5, 0, 7⟩]) => same_tk (w := W.alloc (.cells #[.int .i64 3, .int .u32 3, .int .u32 14, .int .i64 5, .int .u32 0, .int .u32 7] 30)) v _ _ (h.quiet ((Keeps.refl _ _).alloc _)) (rdT_two W ⟨3, 3, 14⟩ ⟨5, 0, 7⟩))
  have E1 := fun w => tk_eql w 1 1 5 5 0 0
  have E2 := fun w => hd_eql w 0 0 1 1 0 0 3 3 14 14
  simp only [and_self, decide_true] at E1 E2
  clear hW11 B9 S10 L10 K11 NX
  go_wp2_with (first
    | (go_at_call 13; refine LS.it.mono ?_; rintro e w12 ⟨v12, rfl, o12, k12⟩; have R12 := Aside.mk (owns_readsK o12.it); have K13 : Aside (Keeps Nowhere W11 (w12.alloc (.cells #[.int .i64 3, .int .u32 3, .int .u32 14, .int .i64 5, .int .u32 0, .int .u32 7] 30))) := ⟨k12.it.alloc _⟩)
    | (go_at_call 12; refine (SM.it w12 v12 R12.it).mono ?_; rintro e w14 ⟨rfl, k14⟩; have K14 := Aside.mk (K13.it.trans k14); have c0 : w14.cell? ⟨w10.heap.size, 0, none⟩ = some (.int .i64 1) := (by rw [(C11.it.later K14.it (fun x => x)).cell]; rfl); have c1 : w14.cell? ⟨w10.heap.size, 1, none⟩ = some (.int .u32 5) := (by rw [(C11.it.later K14.it (fun x => x)).cell]; rfl); have c2 : w14.cell? ⟨w10.heap.size, 2, none⟩ = some (.int .u32 0) := (by rw [(C11.it.later K14.it (fun x => x)).cell]; rfl); have d0 : w14.cell? ⟨w8.heap.size, 0, none⟩ = some (.int .u8 0) := (by rw [(B11.it.later K14.it (fun x => x)).cell]; rfl); have d1 : w14.cell? ⟨w8.heap.size, 1, none⟩ = some (.int .u8 1) := (by rw [(B11.it.later K14.it (fun x => x)).cell]; rfl); have d2 : w14.cell? ⟨w8.heap.size, 2, none⟩ = some (.int .u16 0) := (by rw [(B11.it.later K14.it (fun x => x)).cell]; rfl); have d3 : w14.cell? ⟨w8.heap.size, 3, none⟩ = some (.int .u32 3) := (by rw [(B11.it.later K14.it (fun x => x)).cell]; rfl); have d4 : w14.cell? ⟨w8.heap.size, 4, none⟩ = some (.int .u32 14) := (by rw [(B11.it.later K14.it (fun x => x)).cell]; rfl))
    | fail)
  go_ret
  exact ⟨rfl, ⟨Keeps.ofBelow (L11.it.quiet K14.it).g.g.bel⟩⟩
end Go.Proofs.YtialmmobkmdfpaaDoor
