/-
  a lane above the ground; culvertlaw11.fixed
-/
import Derived.Test.YtnohcbdnhpaafaaGreatDoorLnF
import Derived.Test.YtnohcbdnhpaafaaGreatDoorLnG
namespace Go.Proofs.YtnohcbdnhpaafaaGreatDoor
open Go.RowKit

variable {A : Nat → Addr} {w w' w0 : World} {own own' : Nat → Nat} {p m : Nat} {L : List Tk} {I : Nat → Prop}

structure Ln (A : Nat → Addr) (w0 : World) (own : Nat → Nat) (w : World) (p : Nat) (L : List Tk) (m : Nat) : Prop where
  g : Gl A w0 own w
  l : ∃ Z, LnO own 1 w p Z m ∧ Z.map (·.2) = L
theorem Ln.sn (h : Ln A w0 own w p L m) (s : Sn I own w own' w') (h0 : ¬ I 0) (hi : ∀ k, In4 1 k → ¬ I k) : Ln A w0 own' w' p L m := by
  obtain ⟨Z, h1, h2⟩ := h.l
  exact ⟨h.g.sn s h0, Z, h1.sn s hi, h2⟩
theorem Ln.quiet (h : Ln A w0 own w p L m) (k : Keeps Nowhere w w') : Ln A w0 own w' p L m := h.sn (I := fun _ => False) (Sn.same k) (fun x => x) (fun _ _ x => x)
theorem Ln.bound (h : Ln A w0 own w p L m) : L.length ≤ m := by
  obtain ⟨Z, ⟨fp, mb, F, h1⟩, rfl⟩ := h.l
  have := FifoM.room h1.fifo
  rw [qz_len] at this
  simpa using this
theorem not_in4_0 : ¬ In4 1 0 := fun h => by have := h.1; omega
theorem newX (h : Gl A w0 own w) : Calls Tryz.prog 13 #[] w fun e w' => ∃ p own', e = .returned (ptr p) ∧ Aside (Ln A w0 own' w' p [] 0) := by
  refine (new_at w own 1).mono ?_
  rintro e w' ⟨p, own', rfl, r⟩
  exact ⟨p, own', rfl, ⟨h.sn (I := fun _ => False) ⟨r.it.2.2, r.it.2.1.any⟩ (fun x => x), [], r.it.1, rfl⟩⟩
theorem putX (h : Ln A w0 own w p L m) (t : Tk) (ht : t.Wide) (hm : m < 8796093022208) :
    Calls Tryz.prog 42 #[ptr p, tkv t.k t.s t.v] w fun e w' => ∃ x own', e = .returned x ∧ Hid (Coded A x (putL L t).2) ∧ Aside (Ln A w0 own' w' p (putL L t).1 (m + 1)) ∧ Aside (Sn (In4 1) own w own' w') := by
  obtain ⟨Z, h1, rfl⟩ := h.l
  refine (put_at h1 h.g.st t ht hm).mono ?_
  rintro e w' ⟨x, rfl, hx, r⟩
  obtain ⟨own', Z', r1, r2, r3⟩ := r.it.it
  exact ⟨x, own', rfl, hx, ⟨⟨h.g.sn r3 not_in4_0, Z', r1, r2⟩⟩, ⟨r3⟩⟩
theorem nextX (t : Tk) (h : Ln A w0 own w p (t :: L) m) (hm : m ≤ 8796093022208) : Calls Tryz.prog 36 #[ptr p] w fun e w' => ∃ own', e = .returned (.tuple #[tkv t.k t.s t.v, .bool true]) ∧ Aside (Ln A w0 own' w' p L m) ∧ Aside (Sn (In4 1) own w own' w') := by
  obtain ⟨Z, h1, h2⟩ := h.l
  cases Z with
  | nil => cases h2
  | cons x Z =>
    obtain ⟨b, u⟩ := x
    rw [List.map_cons] at h2
    injection h2 with e1 e2
    simp only at e1
    subst e1
    refine (next_at b u h1 hm).mono ?_
    rintro e w' ⟨rfl, own', r⟩
    exact ⟨own', rfl, ⟨h.g.sn r.it.2 not_in4_0, Z, r.it.1, e2⟩, ⟨r.it.2⟩⟩
theorem nextE (h : Ln A w0 own w p [] m) : Calls Tryz.prog 36 #[ptr p] w fun e w' => e = .returned (.tuple #[tkv 0 0 0, .bool false]) ∧ Aside (Ln A w0 own w' p [] m) := by
  obtain ⟨Z, h1, h2⟩ := h.l
  obtain rfl : Z = [] := by simpa using h2
  refine (next_empty h1).mono ?_
  rintro e w' ⟨rfl, k⟩
  exact ⟨rfl, ⟨h.quiet k⟩⟩
theorem listX (h : Ln A w0 own w p L m) (hm : m ≤ 8796093022208) : Calls Tryz.prog 61 #[ptr p] w fun e w' => ∃ v, e = .returned v ∧ Aside (w'.ownsRow w.heap.size 35 3 v L.length (flatT L)) ∧ Aside (Keeps Nowhere w w') := by
  obtain ⟨Z, h1, rfl⟩ := h.l
  refine (list_at h1 hm).mono ?_
  rintro e w' ⟨v, rfl, o, k⟩
  exact ⟨v, rfl, ⟨by rw [List.length_map]; exact o.it⟩, k⟩

set_option maxRecDepth 100000 in
theorem hd_eql (w : World) (v v2 t t2 f f2 s s2 l l2 : Int) : (binOp .eql 44 (.agg #[.int .u8 v, .int .u8 t, .int .u16 f, .int .u32 s, .int .u32 l]) (.agg #[.int .u8 v2, .int .u8 t2, .int .u16 f2, .int .u32 s2, .int .u32 l2])).run Tryz.prog w = .ok (.bool (decide (v = v2 ∧ t = t2 ∧ f = f2 ∧ s = s2 ∧ l = l2))) w := by
  have hst : Tryz.prog.stoodInHeld 44 = false := by kernel_rfl
  have hfo : Tryz.prog.underlying 44 = some (.struct (Tryz.prog.fieldsOf 44)) := by kernel_rfl
  have h := run_equalIn_agg (P := Tryz.prog) (w := w) 9999 44 #[.int .u8 v, .int .u8 t, .int .u16 f, .int .u32 s, .int .u32 l] #[.int .u8 v2, .int .u8 t2, .int .u16 f2, .int .u32 s2, .int .u32 l2] hfo hst
  rw [run_eql_struct, h]
  clear h hst hfo
  simp only [Program.fieldsOf, Tryz.underlying44]
  by_cases e0 : v = v2
  · by_cases e1 : t = t2
    · by_cases e2 : f = f2
      · by_cases e3 : s = s2
        · by_cases e4 : l = l2
          · simp [Op.eqFields, go_sem, e0, e1, e2, e3, e4]
          · simp [Op.eqFields, go_sem, e0, e1, e2, e3, e4]
        · simp [Op.eqFields, go_sem, e0, e1, e2, e3]
      · simp [Op.eqFields, go_sem, e0, e1, e2]
    · simp [Op.eqFields, go_sem, e0, e1]
  · simp [Op.eqFields, go_sem, e0]
theorem wide_c (k : Int) (s v : Nat) (h : (decide (-9223372036854775808 ≤ k) && decide (k ≤ 9223372036854775807) && decide (s ≤ 4294967295) && decide (v ≤ 4294967295)) = true) : (⟨k, s, v⟩ : Tk).Wide := by
  simp only [Bool.and_eq_true, decide_eq_true_eq] at h
  exact ⟨h.1.1.1, h.1.1.2, h.1.2, h.2⟩

theorem q2 : (putL [] ⟨1, 5, 0⟩).1 = [⟨1, 5, 0⟩] ∧ (putL [] ⟨1, 5, 0⟩).2 = 0 := by decide
theorem q3 : (putL [⟨1, 5, 0⟩] ⟨3, 3, 10⟩).1 = [⟨1, 5, 0⟩, ⟨3, 3, 10⟩] ∧ (putL [⟨1, 5, 0⟩] ⟨3, 3, 10⟩).2 = 0 := by decide
theorem q4 : (putL [⟨1, 5, 0⟩, ⟨3, 3, 10⟩] ⟨5, 0, 7⟩).1 = [⟨1, 5, 0⟩, ⟨3, 3, 10⟩, ⟨5, 0, 7⟩] ∧ (putL [⟨1, 5, 0⟩, ⟨3, 3, 10⟩] ⟨5, 0, 7⟩).2 = 0 := by decide
theorem q5 : (putL [⟨1, 5, 0⟩, ⟨3, 3, 10⟩, ⟨5, 0, 7⟩] ⟨3, 3, 4⟩).1 = [⟨1, 5, 0⟩, ⟨3, 3, 14⟩, ⟨5, 0, 7⟩] ∧ (putL [⟨1, 5, 0⟩, ⟨3, 3, 10⟩, ⟨5, 0, 7⟩] ⟨3, 3, 4⟩).2 = 0 := by decide
theorem q6 : (putL [⟨1, 5, 0⟩, ⟨3, 3, 14⟩, ⟨5, 0, 7⟩] ⟨1, 5, 0⟩).1 = [⟨1, 5, 0⟩, ⟨3, 3, 14⟩, ⟨5, 0, 7⟩] ∧ (putL [⟨1, 5, 0⟩, ⟨3, 3, 14⟩, ⟨5, 0, 7⟩] ⟨1, 5, 0⟩).2 = 8 := by decide
theorem m14 : mayT ⟨3, 3, 14⟩ = 0 := by decide
theorem f14 : fr6 ⟨3, 3, 14⟩ = fv6 1 0 3 14 := by rw [fr6, if_pos m14]; rfl
theorem rdT_two (w : World) (t u : Tk) : RdT (w.alloc (.cells #[.int .i64 t.k, .int .u32 t.s, .int .u32 t.v, .int .i64 u.k, .int .u32 u.s, .int .u32 u.v] 35)) (.slice (some ⟨w.heap.size, 0, none⟩) 2 2) [t, u] := by
  refine ⟨rfl, _, 2, rfl, Nat.le_refl _, by unfold maxLen; omega, fun e => (by cases e), fun j v hj => ⟨w.heap.size, 0, rfl, ?_⟩⟩
  have := (Cells.new w 35 (flatT [t, u])).cell j
  rw [hj] at this
  rw [Nat.zero_add]
  exact this

end Go.Proofs.YtnohcbdnhpaafaaGreatDoor
