/-
  FifoOrder's world: a queue of 1's above the ground; what the law keeps of it
-/
import Derived.Test.YtedjgkgffhapiaaDoorFifoOint
import Derived.Test.YtedjgkgffhapiaaDoorSn
import Derived.Test.YtedjgkgffhapiaaDoorCodedZ
import Derived.Test.YtedjgkgffhapiaaDoorWakes
import Derived.Test.YtedjgkgffhapiaaDoorOpenFO
import Derived.Deep.Cut
import Derived.Deep.RegionHeldLaw
import Derived.Deep.DeepCutAuto
namespace Go.Proofs.YtedjgkgffhapiaaDoor
open Go.RowKit

section
variable {own own' : Nat → Nat} {w w' w0 : World} {b p rt rw L S : Nat} {q : List (Int × Nat)} {A : Nat → Addr}
/-- a queue of 1's, its room in a box -/
structure Fo3 (A : Nat → Addr) (w0 : World) (b p rt rw : Nat) (q : List (Int × Nat)) (L S : Nat) (own : Nat → Nat) (w : World) : Prop where
  f : Fint.FifoO own 1 w p rt rw q
  g : OnG A w0 own w
  box : CellsO own 0 w b 23 [.int .i64 rt, .int .i64 rw]
  len : q.length = L
  sum : Fint.sumW q = S
theorem Fo3.quiet (h : Aside (Fo3 A w0 b p rt rw q L S own w)) (k : Keeps Nowhere w w') : Aside (Fo3 A w0 b p rt rw q L S own w') := ⟨⟨h.it.f.quiet k, h.it.g.quiet k, h.it.box.quiet k, h.it.len, h.it.sum⟩⟩
theorem Fo3.room (h : Aside (Fo3 A w0 b p rt rw q L S own w)) : w.cell? ⟨b, 0, none⟩ = some (.int .i64 rt) ∧ w.cell? ⟨b, 1, none⟩ = some (.int .i64 rw) :=
  ⟨by rw [h.it.box.1.cell]; rfl, by rw [h.it.box.1.cell]; rfl⟩
theorem Fo3.facts (h : Aside (Fo3 A w0 b p rt rw q L S own w)) : (L ≤ rt ∧ S ≤ rw) ∧ rt ≤ 9223372036854775807 ∧ rw ≤ 9223372036854775807 := by
  have h1 := h.it.f.things
  have h2 := h.it.f.weight
  rw [h.it.len] at h1
  rw [h.it.sum] at h2
  exact ⟨⟨h1, h2⟩, h.it.f.rt63, h.it.f.rw63⟩
theorem fo_len (h : Aside (Fo3 A w0 b p rt rw q L S own w)) : Calls Tryd.prog 6 #[ptr p] w fun e w' => e = .returned (.int .i64 L) ∧ Aside (Fo3 A w0 b p rt rw q L S own w') :=
  (Fint.len_o h.it.f).mono (by rintro e w' ⟨rfl, k⟩; exact ⟨by rw [h.it.len], Fo3.quiet h k⟩)
theorem fo_weight (h : Aside (Fo3 A w0 b p rt rw q L S own w)) : Calls Tryd.prog 7 #[ptr p] w fun e w' => e = .returned (.int .i64 S) ∧ Aside (Fo3 A w0 b p rt rw q L S own w') :=
  (Fint.weight_o h.it.f).mono (by rintro e w' ⟨rfl, rfl⟩; exact ⟨by rw [h.it.sum], h⟩)
theorem fo_lenQ (h : Aside (Fo3 A w0 b p rt rw q L S own w)) (n : Nat) : Calls Tryd.prog 6 #[ptr p] (w.drewN n) fun e w' => e = .returned (.int .i64 L) ∧ ∃ m, w' = w.drewN m := by
  have := Fint.len_quiet_o h.it.f n
  rw [h.it.len] at this
  exact this
theorem fo_weightQ (h : Aside (Fo3 A w0 b p rt rw q L S own w)) (n : Nat) : Calls Tryd.prog 7 #[ptr p] (w.drewN n) fun e w' => e = .returned (.int .i64 S) ∧ ∃ m, w' = w.drewN m := by
  have := Fint.weight_quiet_o h.it.f n
  rw [h.it.sum] at this
  exact this
theorem fo_put (h : Aside (Fo3 A w0 b p rt rw q L S own w)) (x n : Int) (hb : L ≤ 1048576) {k : Int} {q' : List (Int × Nat)} {L' S' : Nat} (hk : Fint.putK rt rw q n = k) (hq : Fint.putQ rt rw q x n = q') (hL : q'.length = L') (hS : Fint.sumW q' = S') :
    Calls Tryd.prog 9 #[ptr p, .int .i64 x, .int .i64 n] w fun e w' => ∃ er own', e = .returned er ∧ Hid (Coded A er k) ∧ Aside (Fo3 A w0 b p rt rw q' L' S' own' w') := by
  refine (Fint.put_o h.it.g.sents h.it.f x n (by have := h.it.len; omega)).mono ?_
  rintro e w' ⟨er, rfl, hc, hf, hk'⟩
  have s := Sn.by hk'.it 1
  rw [hk] at hc
  rw [hq] at hf
  exact ⟨er, _, rfl, hc, ⟨hf.it, h.it.g.sn s (by decide), h.it.box.sn s (by decide), hL, hS⟩⟩
theorem fo_put_neg (h : Aside (Fo3 A w0 b p rt rw q L S own w)) (x n : Int) (hb : L ≤ 1048576) (hn : n < 0) :
    Calls Tryd.prog 9 #[ptr p, .int .i64 x, .int .i64 n] w fun e w' => ∃ er own', e = .returned er ∧ Hid (Coded A er 2) ∧ Aside (Fo3 A w0 b p rt rw q L S own' w') := by
  have hk : Fint.putK rt rw q n = 2 := by unfold Fint.putK; rw [if_pos hn]
  exact fo_put h x n hb hk (by unfold Fint.putQ; rw [hk]; rfl) h.it.len h.it.sum
theorem fo_put_full (h : Aside (Fo3 A w0 b p rt rw q L S own w)) (x n : Int) (hb : L ≤ 1048576) (hn : ¬ n < 0) (hf : rt ≤ L ∨ (rw : Int) < S + n) :
    Calls Tryd.prog 9 #[ptr p, .int .i64 x, .int .i64 n] w fun e w' => ∃ er own', e = .returned er ∧ Hid (Coded A er 6) ∧ Aside (Fo3 A w0 b p rt rw q L S own' w') := by
  have hk : Fint.putK rt rw q n = 6 := by unfold Fint.putK; rw [if_neg hn, if_pos (by rw [h.it.len, h.it.sum]; exact hf)]
  exact fo_put h x n hb hk (by unfold Fint.putQ; rw [hk]; rfl) h.it.len h.it.sum
theorem fo_put_ok (h : Aside (Fo3 A w0 b p rt rw q L S own w)) (x : Int) (n : Nat) (hb : L ≤ 1048576) (h1 : L < rt) (h2 : S + n ≤ rw) :
    Calls Tryd.prog 9 #[ptr p, .int .i64 x, .int .i64 n] w fun e w' => ∃ er own', e = .returned er ∧ Hid (Coded A er 0) ∧ Aside (Fo3 A w0 b p rt rw (q ++ [(x, n)]) (L + 1) (S + n) own' w') := by
  have hk : Fint.putK rt rw q n = 0 := by unfold Fint.putK; rw [if_neg (by omega), if_neg (by rw [h.it.len, h.it.sum]; omega)]
  refine fo_put h x n hb hk (by unfold Fint.putQ; rw [hk]; rfl) ?_ ?_
  · rw [List.length_append, h.it.len]; rfl
  · rw [Fint.sumW_append, h.it.sum, Fint.sumW_cons, Fint.sumW_nil, Nat.add_zero]
theorem fo_get_nil (h : Aside (Fo3 A w0 b p rt rw [] L S own w)) : Calls Tryd.prog 10 #[ptr p] w fun e w' => ∃ own', e = .returned (.tuple #[.int .i64 0, .int .i64 0, .bool false]) ∧ Aside (Fo3 A w0 b p rt rw [] L S own' w') := by
  refine (Fint.get_o h.it.f (by decide)).mono ?_
  rintro e w' ⟨rfl, hf, hk⟩
  have s := Sn.by hk.it 1
  exact ⟨_, rfl, ⟨hf.it, h.it.g.sn s (by decide), h.it.box.sn s (by decide), h.it.len, h.it.sum⟩⟩
theorem fo_get_cons {x : Int} {m : Nat} (h : Aside (Fo3 A w0 b p rt rw ((x, m) :: q) (L + 1) (m + S) own w)) (hb : L ≤ 1048576) : Calls Tryd.prog 10 #[ptr p] w fun e w' => ∃ own', e = .returned (.tuple #[.int .i64 x, .int .i64 m, .bool true]) ∧ Aside (Fo3 A w0 b p rt rw q L S own' w') := by
  have hl := h.it.len
  have hsum := h.it.sum
  rw [List.length_cons] at hl
  rw [Fint.sumW_cons] at hsum
  refine (Fint.get_o h.it.f (by rw [List.length_cons]; omega)).mono ?_
  rintro e w' ⟨rfl, hf, hk⟩
  have s := Sn.by hk.it 1
  exact ⟨_, rfl, ⟨hf.it, h.it.g.sn s (by decide), h.it.box.sn s (by decide), by omega, by simp only at hsum; omega⟩⟩
theorem fo_code {v : Value} {k : Int} (h : Aside (Fo3 A w0 b p rt rw q L S own w)) (hv : Hid (Coded A v k)) : Calls Tryd.prog 8 #[v] w fun e w' => e = .returned (.int .i64 k) ∧ w' = w := code_of (A := A) h.it.g.sents hv.out

/-- what the numbers in the queue are: they rise, above 'last', below n; each weight is the list's -/
structure Inv3 (ws : List Int) (q : List (Int × Nat)) (n : Nat) (last : Int) : Prop where
  mem : ∀ x ∈ q, last < x.1 ∧ 0 ≤ x.1 ∧ x.1 < n ∧ ws[x.1.toNat]? = some (x.2 : Int)
  asc : q.Pairwise (fun a b => a.1 < b.1)
  lo : -1 ≤ last
  hi : last < n
theorem Inv3.start (ws : List Int) : Inv3 ws [] 0 (-1) := ⟨fun _ h => (by cases h), List.Pairwise.nil, by omega, by omega⟩
theorem Inv3.skip {ws : List Int} {n : Nat} {last : Int} (h : Inv3 ws q n last) : Inv3 ws q (n + 1) last :=
  ⟨fun x hx => by have := h.mem x hx; exact ⟨this.1, this.2.1, by omega, this.2.2.2⟩, h.asc, h.lo, by have := h.hi; omega⟩
theorem Inv3.put {ws : List Int} {n m : Nat} {last : Int} (h : Inv3 ws q n last) (hm : ws[n]? = some (m : Int)) : Inv3 ws (q ++ [((n : Int), m)]) (n + 1) last := by
  have h' := h.skip
  have hh := h.hi
  refine ⟨fun x hx => ?_, ?_, h.lo, h'.hi⟩
  · rcases List.mem_append.1 hx with hx | hx
    · exact h'.mem x hx
    · obtain rfl := List.mem_singleton.1 hx
      exact ⟨hh, by omega, by omega, by simpa using hm⟩
  · refine List.pairwise_append.2 ⟨h.asc, List.pairwise_singleton _ _, fun a ha b hb => ?_⟩
    obtain rfl := List.mem_singleton.1 hb
    exact (h.mem a ha).2.2.1
theorem Inv3.get {ws : List Int} {n : Nat} {last : Int} {x : Int × Nat} (h : Inv3 ws (x :: q) n last) : (last < x.1 ∧ 0 ≤ x.1 ∧ x.1 < n ∧ ws[x.1.toNat]? = some (x.2 : Int)) ∧ Inv3 ws q n x.1 := by
  have hx := h.mem x (List.mem_cons_self ..)
  refine ⟨hx, fun y hy => ?_, (List.pairwise_cons.1 h.asc).2, by omega, hx.2.2.1⟩
  have := h.mem y (List.mem_cons_of_mem _ hy)
  exact ⟨(List.pairwise_cons.1 h.asc).1 y hy, this.2⟩
end
end Go.Proofs.YtedjgkgffhapiaaDoor
