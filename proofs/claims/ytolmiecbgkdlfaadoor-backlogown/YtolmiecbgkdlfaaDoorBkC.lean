/-
  package backlog: Remove, Clear
-/
import Derived.Test.YtolmiecbgkdlfaaDoorBkB
namespace Go.Proofs.YtolmiecbgkdlfaaDoor
open Go.RowKit Fuint32

variable {A : Nat → Addr} {w w' W w0 : World} {own own' : Nat → Nat} {i p fp most : Nat} {L L' : List Nat} {v v' : Value} {first : Nat} {gone : List Value} {I : Nat → Prop}

theorem brem_of (x : Value) (fv : Option Addr) (id n : Nat) (R : World → Prop) (PT : Pt w x fv)
    (RM : ∀ W qa, Keeps Nowhere w W → Cells W qa 34 [.int .u32 (id : Nat)] → Calls Tryd.prog 31 #[.pointer fv, .func (.func 32) #[] #[ptr qa]] W fun e w' => e = .returned (.int .i64 (n : Nat)) ∧ Aside (R w')) :
    Calls Tryd.prog 13 #[x, .int .u32 (id : Nat)] w fun e w' => e = .returned (.bool (decide (0 < n))) ∧ Aside (R w') := by
  have K0 : Aside (Keeps Nowhere w (w.alloc (.cells #[.int .u32 (id : Nat)] 34))) := ⟨(Keeps.refl _ _).alloc _⟩
  have C0 : Aside (Cells (w.alloc (.cells #[.int .u32 (id : Nat)] 34)) w.heap.size 34 [.int .u32 (id : Nat)]) := ⟨Cells.new w _ _⟩
  have P := Aside.mk (PT _ K0.it)
  have N := Aside.mk RM
  have F0 := bk_f0 fv
  clear PT RM
  go_enter Tryd.func13, Tryd.ntmps13
  go_wp2_with (first | (go_at_call 28; refine P.it.mono ?_; rintro e w1 ⟨rfl, K1⟩) | (go_at_call 31; refine (N.it w1 w.heap.size (K0.it.trans K1.it) (C0.it.later K1.it (fun x => x))).mono ?_; rintro e w2 ⟨rfl, R2⟩) | fail)
  go_ret
  refine ⟨?_, R2⟩
  congr 2
theorem brem_nil (w : World) (id : Nat) : Calls Tryd.prog 13 #[.pointer none, .int .u32 (id : Nat)] w fun e w' => e = .returned (.bool false) ∧ Aside (Keeps Nowhere w w') :=
  brem_of _ none id 0 (fun W => Keeps Nowhere w W) (Pt.nil w) (fun W qa k _ => (brm.remove_nil W qa).mono fun _ _ h => ⟨h.1, ⟨k.trans h.2⟩⟩)
theorem brem (h : BkO own i w p most L) (id : Nat) : Calls Tryd.prog 13 #[ptr p, .int .u32 (id : Nat)] w fun e w' => e = .returned (.bool (decide (id ∈ L))) ∧ Aside (∃ own', BkO own' i w' p most (L.filter (fun x => !(x == id))) ∧ Sn (fun k => k = i) own w own' w') := by
  obtain ⟨fp, v, f, g, h, hp, ho⟩ := h
  have hd : decide (id ∈ L) = decide (0 < L.countP (fun x => x == id)) := by
    rw [decide_eq_decide, List.countP_pos_iff]
    constructor
    · exact fun h => ⟨id, h, by simp⟩
    · rintro ⟨a, ha, e⟩
      simp only [beq_iff_eq] at e
      exact e ▸ ha
  rw [hd]
  refine brem_of _ (some ⟨fp, 0, none⟩) id _ (fun w' => ∃ own', BkO own' i w' p most (L.filter (fun x => !(x == id))) ∧ Sn (fun k => k = i) own w own' w') (Pt.at h.box) (fun W qa k hc => ?_)
  have h2 : BkI W p fp most L v f g := ⟨h.box.later k (fun x => x), h.q.later k (fun _ _ x => x), h.half, h.top⟩
  have hl := h.q.things
  have ht := h.top
  rw [qn_len] at hl
  refine (brm.remove_q h2.q (by rw [qn_len]; exact h.half) (by rw [qn_len]; simp only [by']; omega) qa (fun x => x.1 == id) (fun x W' k' => rm1 x.1 id qa (by rw [(hc.later k' (fun x => x)).cell]; rfl))).mono ?_
  rintro e w' ⟨rfl, v', f', g', a, b, c, d⟩
  rw [qn_count (fun x => x == id)]
  refine ⟨rfl, ⟨?_⟩⟩
  have a1 := a.it
  have b1 := b.it
  rw [qn_filter (fun x => x == id)] at a1 b1
  rw [qn_len] at b1
  have hx := h2.done hp ho a1 b1 c.it d.it
  exact ⟨_, hx.1, (Sn.same k).trans hx.2⟩

theorem bclear_of (x : Value) (fv : Option Addr) (n : Nat) (R : World → Prop) (PT : Pt w x fv)
    (RM : ∀ W, Keeps Nowhere w W → Calls Tryd.prog 31 #[.pointer fv, .func (.func 36) #[] #[]] W fun e w' => e = .returned (.int .i64 (n : Nat)) ∧ Aside (R w')) :
    Calls Tryd.prog 18 #[x] w fun e w' => e = .returned (.int .i64 (n : Nat)) ∧ Aside (R w') := by
  have P := Aside.mk (PT w (Keeps.refl _ _))
  have N := Aside.mk RM
  have F0 := bk_f0 fv
  clear PT RM
  go_enter Tryd.func18, Tryd.ntmps18
  go_wp2_with (first | (go_at_call 28; refine P.it.mono ?_; rintro e w1 ⟨rfl, K1⟩) | (go_at_call 31; refine (N.it w1 K1.it).mono ?_; rintro e w2 ⟨rfl, R2⟩) | fail)
  go_ret
  exact ⟨rfl, R2⟩
theorem bclear_nil (w : World) : Calls Tryd.prog 18 #[.pointer none] w fun e w' => e = .returned (.int .i64 (0 : Nat)) ∧ Aside (Keeps Nowhere w w') :=
  bclear_of _ none 0 (fun W => Keeps Nowhere w W) (Pt.nil w) (fun W k => (bcl.remove_nil W).mono fun _ _ h => ⟨h.1, ⟨k.trans h.2⟩⟩)
theorem bclear (h : BkO own i w p most L) : Calls Tryd.prog 18 #[ptr p] w fun e w' => e = .returned (.int .i64 L.length) ∧ Aside (∃ own', BkO own' i w' p most [] ∧ Sn (fun k => k = i) own w own' w') := by
  obtain ⟨fp, v, f, g, h, hp, ho⟩ := h
  refine bclear_of _ (some ⟨fp, 0, none⟩) _ (fun w' => ∃ own', BkO own' i w' p most [] ∧ Sn (fun k => k = i) own w own' w') (Pt.at h.box) (fun W k => ?_)
  have h2 : BkI W p fp most L v f g := ⟨h.box.later k (fun x => x), h.q.later k (fun _ _ x => x), h.half, h.top⟩
  have hl := h.q.things
  have ht := h.top
  rw [qn_len] at hl
  refine (bcl.remove_q h2.q (by rw [qn_len]; exact h.half) (by rw [qn_len]; simp only [by']; omega) (fun _ => true) (fun x W' _ => cl1 x.1)).mono ?_
  rintro e w' ⟨rfl, v', f', g', a, b, c, d⟩
  refine ⟨by rw [show (fun _ : Nat × Nat => true) = (fun x => (fun _ => true) x.1) from rfl, qn_count (fun _ => true)]; simp, ⟨?_⟩⟩
  have a1 := a.it
  have b1 := b.it
  rw [show (fun x : Nat × Nat => !true) = (fun x => !(fun _ => true) x.1) from rfl, qn_filter (fun _ => true)] at a1 b1
  rw [qn_len] at b1
  have hx := h2.done hp ho a1 b1 c.it d.it
  rw [show L.filter (fun _ => !true) = [] from List.filter_eq_nil_iff.2 (fun _ _ => by simp)] at hx
  exact ⟨_, hx.1, (Sn.same k).trans hx.2⟩
end Go.Proofs.YtolmiecbgkdlfaaDoor
