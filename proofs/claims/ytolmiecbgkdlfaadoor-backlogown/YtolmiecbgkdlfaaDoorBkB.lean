/-
  package backlog: Len, Head, Take, Remove, Clear
-/
import Derived.Test.YtolmiecbgkdlfaaDoorBkA
namespace Go.Proofs.YtolmiecbgkdlfaaDoor
open Go.RowKit Fuint32

variable {A : Nat → Addr} {w w' W w0 : World} {own own' : Nat → Nat} {i p fp most : Nat} {L L' : List Nat} {v v' : Value} {first : Nat} {gone : List Value} {I : Nat → Prop}

theorem blen_of (x : Value) (fv : Option Addr) (n : Nat) (PT : Pt w x fv) (LN : ∀ W, Keeps Nowhere w W → Calls Tryd.prog 33 #[.pointer fv] W fun e w' => e = .returned (.int .i64 n) ∧ Keeps Nowhere W w') :
    Calls Tryd.prog 15 #[x] w fun e w' => e = .returned (.int .i64 n) ∧ Aside (Keeps Nowhere w w') := by
  have P := Aside.mk (PT w (Keeps.refl _ _))
  have N := Aside.mk LN
  have F0 := bk_f0 fv
  clear PT LN
  go_enter Tryd.func15, Tryd.ntmps15
  go_wp2_with (first | (go_at_call 28; refine P.it.mono ?_; rintro e w1 ⟨rfl, K1⟩) | (go_at_call 33; refine (N.it w1 K1.it).mono ?_; rintro e w2 ⟨rfl, k2⟩) | fail)
  go_ret
  exact ⟨rfl, ⟨K1.it.trans k2⟩⟩
theorem blen_nil (w : World) : Calls Tryd.prog 15 #[.pointer none] w fun e w' => e = .returned (.int .i64 (0 : Nat)) ∧ Aside (Keeps Nowhere w w') :=
  blen_of _ none 0 (Pt.nil w) (fun W _ => (len_nil W).mono fun e w' h => ⟨h.1, by rw [h.2]; exact Keeps.refl _ _⟩)
theorem blen (h : BkO own i w p most L) : Calls Tryd.prog 15 #[ptr p] w fun e w' => e = .returned (.int .i64 L.length) ∧ Aside (Keeps Nowhere w w') := by
  obtain ⟨fp, v, f, g, h, _⟩ := h
  refine blen_of _ (some ⟨fp, 0, none⟩) L.length (Pt.at h.box) (fun W k => ?_)
  have := len_in (h.q.later k (fun _ _ x => x))
  rw [qn_len] at this
  exact this

theorem bhead_of (x : Value) (fv : Option Addr) (n m : Nat) (b : Bool) (PT : Pt w x fv) (HD : ∀ W, Keeps Nowhere w W → Calls Tryd.prog 34 #[.pointer fv] W fun e w' => e = .returned (.tuple #[.int .u32 (n : Nat), .int .i64 (m : Nat), .bool b]) ∧ Keeps Nowhere W w') :
    Calls Tryd.prog 16 #[x] w fun e w' => e = .returned (.tuple #[.int .u32 (n : Nat), .bool b]) ∧ Aside (Keeps Nowhere w w') := by
  have P := Aside.mk (PT w (Keeps.refl _ _))
  have N := Aside.mk HD
  have F0 := bk_f0 fv
  clear PT HD
  go_enter Tryd.func16, Tryd.ntmps16
  go_wp2_with (first | (go_at_call 28; refine P.it.mono ?_; rintro e w1 ⟨rfl, K1⟩) | (go_at_call 34; refine (N.it w1 K1.it).mono ?_; rintro e w2 ⟨rfl, k2⟩) | fail)
  go_ret2
  exact ⟨rfl, ⟨K1.it.trans k2⟩⟩
theorem bhead_nil (w : World) : Calls Tryd.prog 16 #[.pointer none] w fun e w' => e = .returned (.tuple #[.int .u32 (0 : Nat), .bool false]) ∧ Aside (Keeps Nowhere w w') :=
  bhead_of _ none 0 0 false (Pt.nil w) (fun W _ => head_nil W)
/-- the first, or 0 -/
def hd0 (L : List Nat) : Nat := L.headD 0
def some0 (L : List Nat) : Bool := !L.isEmpty
theorem bhead (h : BkO own i w p most L) : Calls Tryd.prog 16 #[ptr p] w fun e w' => e = .returned (.tuple #[.int .u32 (hd0 L : Nat), .bool (some0 L)]) ∧ Aside (Keeps Nowhere w w') := by
  obtain ⟨fp, v, f, g, h, _⟩ := h
  cases L with
  | nil => exact bhead_of _ (some ⟨fp, 0, none⟩) 0 0 false (Pt.at h.box) (fun W k => head_empty (h.q.later k (fun _ _ x => x)))
  | cons x L => exact bhead_of _ (some ⟨fp, 0, none⟩) x 0 true (Pt.at h.box) (fun W k => head_in (x, 0) (h.q.later k (fun _ _ x => x)))

theorem btake_of (x : Value) (fv : Option Addr) (n m : Nat) (b : Bool) (R : World → Prop) (PT : Pt w x fv) (HD : ∀ W, Keeps Nowhere w W → Calls Tryd.prog 35 #[.pointer fv] W fun e w' => e = .returned (.tuple #[.int .u32 (n : Nat), .int .i64 (m : Nat), .bool b]) ∧ Aside (R w')) :
    Calls Tryd.prog 17 #[x] w fun e w' => e = .returned (.tuple #[.int .u32 (n : Nat), .bool b]) ∧ Aside (R w') := by
  have P := Aside.mk (PT w (Keeps.refl _ _))
  have N := Aside.mk HD
  have F0 := bk_f0 fv
  clear PT HD
  go_enter Tryd.func17, Tryd.ntmps17
  go_wp2_with (first | (go_at_call 28; refine P.it.mono ?_; rintro e w1 ⟨rfl, K1⟩) | (go_at_call 35; refine (N.it w1 K1.it).mono ?_; rintro e w2 ⟨rfl, R2⟩) | fail)
  go_ret2
  exact ⟨rfl, R2⟩
theorem btake_nil (w : World) : Calls Tryd.prog 17 #[.pointer none] w fun e w' => e = .returned (.tuple #[.int .u32 (0 : Nat), .bool false]) ∧ Aside (Keeps Nowhere w w') :=
  btake_of _ none 0 0 false (fun W => Keeps Nowhere w W) (Pt.nil w) (fun W k => (get_nil W).mono fun _ _ h => ⟨h.1, ⟨k.trans h.2⟩⟩)
theorem btake (h : BkO own i w p most L) : Calls Tryd.prog 17 #[ptr p] w fun e w' => e = .returned (.tuple #[.int .u32 (hd0 L : Nat), .bool (some0 L)]) ∧ Aside (∃ own', BkO own' i w' p most L.tail ∧ Sn (fun k => k = i) own w own' w') := by
  obtain ⟨fp, v, f, g, h, hp, ho⟩ := h
  cases L with
  | nil =>
    refine btake_of _ (some ⟨fp, 0, none⟩) 0 0 false (fun w' => ∃ own', BkO own' i w' p most [] ∧ Sn (fun k => k = i) own w own' w') (Pt.at h.box) (fun W k => (get_empty (h.q.later k (fun _ _ x => x))).mono fun _ _ h' => ⟨h'.1, ⟨own, BkO.quiet ⟨fp, v, f, g, h, hp, ho⟩ (k.trans h'.2), Sn.same (k.trans h'.2)⟩⟩)
  | cons x L =>
    refine btake_of _ (some ⟨fp, 0, none⟩) x 0 true (fun w' => ∃ own', BkO own' i w' p most L ∧ Sn (fun k => k = i) own w own' w') (Pt.at h.box) (fun W k => ?_)
    have h2 : BkI W p fp most (x :: L) v f g := ⟨h.box.later k (fun x => x), h.q.later k (fun _ _ x => x), h.half, h.top⟩
    have hl := h.q.things
    have ht := h.top
    have hf := h.half
    rw [qn_len] at hl
    simp only [List.length_cons] at hl hf
    refine (get_in (x, 0) h2.q (by rw [List.length_map]; simp only [by']; omega) (by rw [List.length_map]; exact hf)).mono ?_
    rintro e w' ⟨rfl, v', f', g', a, b, c, d⟩
    refine ⟨rfl, ⟨?_⟩⟩
    have b1 := b.it.1
    rw [List.length_map] at b1
    have hx := h2.done hp ho (L' := L) a.it b1 c.it d.it
    exact ⟨_, hx.1, (Sn.same k).trans hx.2⟩

theorem rm1 (x k : Nat) (qa : Nat) (hc : W.cell? ⟨qa, 0, none⟩ = some (.int .u32 (k : Nat))) : Calls Tryd.prog 32 #[.int .u32 (x : Nat), ptr qa] W fun e W' => e = .returned (.bool (x == k)) ∧ Keeps Nowhere W W' := by
  by_cases hx : x = k
  · have e1 : ((x : Int) == k) = true := by simp [hx]
    have e2 : (x == k) = true := by simp [hx]
    rw [e2]
    clear hx e2
    go_enter Tryd.func32, Tryd.ntmps32
    go_wp2
    go_ret
    exact ⟨rfl, Keeps.refl _ _⟩
  · have e1 : ((x : Int) == k) = false := by simp; omega
    have e2 : (x == k) = false := by simp [hx]
    rw [e2]
    clear hx e2
    go_enter Tryd.func32, Tryd.ntmps32
    go_wp2
    go_ret
    exact ⟨rfl, Keeps.refl _ _⟩
theorem cl1 (x : Nat) : Calls Tryd.prog 36 #[.int .u32 (x : Nat)] W fun e W' => e = .returned (.bool true) ∧ Keeps Nowhere W W' := by
  go_enter Tryd.func36, Tryd.ntmps36
  go_wp2
  go_ret
  exact ⟨rfl, Keeps.refl _ _⟩
end Go.Proofs.YtolmiecbgkdlfaaDoor
