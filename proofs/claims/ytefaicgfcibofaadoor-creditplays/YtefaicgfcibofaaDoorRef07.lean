/-
  the document's credit
-/
import Derived.Test.YtefaicgfcibofaaDoorCredD
import Derived.Handy
namespace Go.Proofs.YtefaicgfcibofaaDoor
open Go.RowKit

section
variable {w w' : World} {W c s : Int}
def refV (W c s : Int) : Value := .agg #[.int .i64 W, .int .i64 c, .int .u64 s]
theorem refNew_ok (n : Int) (w : World) (h1 : 1 ≤ n) (h2 : n ≤ 2147483647) :
    Calls Tryd.prog 8 #[.int .i64 n] w fun e w' => e = .returned (.tuple #[.agg #[.int .i64 n, .int .i64 n, .int .u64 0], .int .i64 0]) ∧ Aside (Keeps Nowhere w w') := by
  have a1 : ¬ n < 1 := by omega
  have a2 : ¬ 2147483647 < n := by omega
  go_enter Tryd.func8, Tryd.ntmps8
  go_wp2
  go_returns
  exact ⟨rfl, ⟨Keeps.ofBelow (by go_grown)⟩⟩
theorem refNew_no (n : Int) (w : World) (h : n < 1 ∨ 2147483647 < n) :
    Calls Tryd.prog 8 #[.int .i64 n] w fun e w' => e = .returned (.tuple #[.agg #[.int .i64 0, .int .i64 0, .int .u64 0], .int .i64 2]) ∧ Aside (Keeps Nowhere w w') := by
  rcases h with h | h
  · go_enter Tryd.func8, Tryd.ntmps8
    go_wp2
    go_returns
    exact ⟨rfl, ⟨Keeps.ofBelow (by go_grown)⟩⟩
  · have h0' : ¬ n < 1 := by omega
    go_enter Tryd.func8, Tryd.ntmps8
    go_wp2
    go_returns
    exact ⟨rfl, ⟨Keeps.ofBelow (by go_grown)⟩⟩
theorem refSpend_any (n : Int) (w : World) (hc1 : 0 ≤ c) (hc2 : c ≤ 2147483647) :
    Calls Tryd.prog 11 #[.agg #[.int .i64 W, .int .i64 c, .int .u64 s], .int .i64 n] w fun e w' => e = .returned (.tuple #[.agg #[.int .i64 W, .int .i64 (spC c n), .int .u64 (spS c s n)], .int .i64 (spE c n)]) ∧ Aside (Keeps Nowhere w w') := by
  unfold spC spS spE
  by_cases h0 : n < 0
  · simp only [if_pos h0]
    go_enter Tryd.func11, Tryd.ntmps11
    go_wp2
    go_returns
    exact ⟨rfl, ⟨Keeps.ofBelow (by go_grown)⟩⟩
  · simp only [if_neg h0]
    by_cases h1 : c < n
    · simp only [if_pos h1]
      go_enter Tryd.func11, Tryd.ntmps11
      go_wp2
      go_returns
      exact ⟨rfl, ⟨Keeps.ofBelow (by go_grown)⟩⟩
    · simp only [if_neg h1]
      go_enter Tryd.func11, Tryd.ntmps11
      go_wp2
      go_returns
      exact ⟨rfl, ⟨Keeps.ofBelow (by go_grown)⟩⟩
theorem refGrant_any (d : Int) (w : World) (hc1 : 0 ≤ c) (hc2 : c ≤ W) (hW : W ≤ 2147483647) (hd : 0 ≤ d) (hd2 : d ≤ 4294967295) :
    Calls Tryd.prog 13 #[.agg #[.int .i64 W, .int .i64 c, .int .u64 s], .int .u32 d] w fun e w' => e = .returned (.tuple #[.agg #[.int .i64 W, .int .i64 (grC W c d), .int .u64 s], .int .i64 (grE W c d)]) ∧ Aside (Keeps Nowhere w w') := by
  unfold grC grE
  by_cases h1 : W < c + d
  · simp only [if_pos h1]
    go_enter Tryd.func13, Tryd.ntmps13
    go_wp2
    go_returns
    exact ⟨rfl, ⟨Keeps.ofBelow (by go_grown)⟩⟩
  · simp only [if_neg h1]
    go_enter Tryd.func13, Tryd.ntmps13
    go_wp2
    go_returns
    exact ⟨rfl, ⟨Keeps.ofBelow (by go_grown)⟩⟩

/-- the play: a Send of 1's, the document's in a box of 2's -/
structure Py7 (A : Nat → Addr) (w0 : World) (p rb : Nat) (W c s : Int) (own : Nat → Nat) (w : World) : Prop where
  send : SendO own 1 w p W c s
  ref : CellsO own 2 w rb 31 [.int .i64 W, .int .i64 c, .int .u64 s]
  g : OnG A w0 own w
/-- and the op in its box -/
structure Rp7 (A : Nat → Addr) (w0 : World) (p rb b : Nat) (z : OpV7) (W c s : Int) (W' c' s' : Int) (own : Nat → Nat) (w : World) : Prop where
  send : SendO own 1 w p W c s
  ref : CellsO own 2 w rb 31 [.int .i64 W', .int .i64 c', .int .u64 s']
  g : OnG A w0 own w
  box : CellsO own 4 w b 36 z.cells
section
variable {own own' : Nat → Nat} {w0 : World} {p p' rb b : Nat} {z : OpV7} {W' c' s' : Int} {A : Nat → Addr} {I : Nat → Prop}
theorem Py7.sn (h : Py7 A w0 p rb W c s own w) (k : Sn (fun _ => False) own w own' w') : Py7 A w0 p rb W c s own' w' := ⟨h.send.sn k (fun x => x), h.ref.sn k (fun x => x), h.g.sn k (fun x => x)⟩
theorem Py7.cells (h : Aside (Py7 A w0 p rb W c s own w)) : w.cell? ⟨rb, 0, none⟩ = some (.int .i64 W) ∧ w.cell? ⟨rb, 1, none⟩ = some (.int .i64 c) ∧ w.cell? ⟨rb, 2, none⟩ = some (.int .u64 s) :=
  ⟨by rw [h.it.ref.1.cell]; rfl, by rw [h.it.ref.1.cell]; rfl, by rw [h.it.ref.1.cell]; rfl⟩
theorem Rp7.start (h : Aside (Py7 A w0 p rb W c s own w)) (z : OpV7) : Aside (Rp7 A w0 p rb w.heap.size z W c s W c s (give own w.heap.size 4) (w.alloc (.cells z.cells.toArray 36))) := by
  have k : Keeps Nowhere w (w.alloc (.cells z.cells.toArray 36)) := (Keeps.refl _ _).alloc _
  have x := h.it.sn (Sn.quiet k 4)
  exact ⟨⟨x.send, x.ref, x.g, ⟨Cells.new w _ _, give_new (Nat.le_refl _)⟩⟩⟩
theorem Rp7.cells (h : Aside (Rp7 A w0 p rb b z W c s W' c' s' own w)) : (w.cell? ⟨rb, 0, none⟩ = some (.int .i64 W') ∧ w.cell? ⟨rb, 1, none⟩ = some (.int .i64 c') ∧ w.cell? ⟨rb, 2, none⟩ = some (.int .u64 s')) ∧
    w.cell? ⟨b, 0, none⟩ = some (.int .i64 z.kind) ∧ w.cell? ⟨b, 1, none⟩ = some (.int .i64 z.n) ∧ w.cell? ⟨b, 2, none⟩ = some (.int .u32 z.d) :=
  ⟨⟨by rw [h.it.ref.1.cell]; rfl, by rw [h.it.ref.1.cell]; rfl, by rw [h.it.ref.1.cell]; rfl⟩, by rw [h.it.box.1.cell]; rfl, by rw [h.it.box.1.cell]; rfl, by rw [h.it.box.1.cell]; rfl⟩
theorem Rp7.sn (h : Rp7 A w0 p rb b z W c s W' c' s' own w) (k : Sn I own w own' w') (h0 : ¬ I 0) (h1 : ¬ I 1) (h2 : ¬ I 2) (h4 : ¬ I 4) : Rp7 A w0 p rb b z W c s W' c' s' own' w' :=
  ⟨h.send.sn k h1, h.ref.sn k h2, h.g.sn k h0, h.box.sn k h4⟩
theorem Rp7.quiet (h : Aside (Rp7 A w0 p rb b z W c s W' c' s' own w)) (k : Keeps Nowhere w w') : Aside (Rp7 A w0 p rb b z W c s W' c' s' own w') := ⟨h.it.sn (I := fun _ => False) (Sn.same k) (fun x => x) (fun x => x) (fun x => x) (fun x => x)⟩
theorem Rp7.spend (h : Aside (Rp7 A w0 p rb b z W c s W' c' s' own w)) (n : Int) : Calls Tryd.prog 10 #[ptr p, .int .i64 n] w fun e w' => ∃ v own', e = .returned v ∧ Hid (Coded A v (spE c n)) ∧ Aside (Rp7 A w0 p rb b z W (spC c n) (spS c s n) W' c' s' own' w') := by
  refine (spend_any h.it.send n h.it.g.sents).mono ?_
  rintro e w' ⟨v, own', rfl, hv, X⟩
  exact ⟨v, own', rfl, hv, ⟨⟨X.it.1, h.it.ref.sn X.it.2 (by decide), h.it.g.sn X.it.2 (by decide), h.it.box.sn X.it.2 (by decide)⟩⟩⟩
theorem Rp7.grant (h : Aside (Rp7 A w0 p rb b z W c s W' c' s' own w)) (n : Int) (hn : 0 ≤ n) : Calls Tryd.prog 12 #[ptr p, .int .u32 n] w fun e w' => ∃ v own', e = .returned v ∧ Hid (Coded A v (grE W c n)) ∧ Aside (Rp7 A w0 p rb b z W (grC W c n) s W' c' s' own' w') := by
  refine (grant_any h.it.send n h.it.g.sents hn).mono ?_
  rintro e w' ⟨v, own', rfl, hv, X⟩
  exact ⟨v, own', rfl, hv, ⟨⟨X.it.1, h.it.ref.sn X.it.2 (by decide), h.it.g.sn X.it.2 (by decide), h.it.box.sn X.it.2 (by decide)⟩⟩⟩
theorem Rp7.new (h : Aside (Rp7 A w0 p rb b z W c s W' c' s' own w)) (n : Int) (h1 : 1 ≤ n) (h2 : n ≤ 2147483647) : Calls Tryd.prog 7 #[.int .i64 n] w fun e w' => ∃ p' own', e = .returned (.tuple #[ptr p', .nilIface]) ∧ Aside (Rp7 A w0 p' rb b z n n 0 W' c' s' own' w') := by
  refine (newC_ok n w own 1 h1 h2).mono ?_
  rintro e w' ⟨p', own', rfl, X⟩
  have k := X.it.2.2
  exact ⟨p', own', rfl, ⟨⟨X.it.1, h.it.ref.sn k (fun x => x), h.it.g.sn k (fun x => x), h.it.box.sn k (fun x => x)⟩⟩⟩
theorem Rp7.newNo (h : Aside (Rp7 A w0 p rb b z W c s W' c' s' own w)) (n : Int) (hn : n < 1 ∨ 2147483647 < n) : Calls Tryd.prog 7 #[.int .i64 n] w fun e w' => e = .returned (.tuple #[.pointer none, .iface 70 (.pointer (some (A 1)))]) ∧ Aside (Rp7 A w0 p rb b z W c s W' c' s' own w') := by
  refine (newC_no n w h.it.g.sents hn).mono ?_
  rintro e w' ⟨rfl, k⟩
  exact ⟨rfl, Rp7.quiet h k.it⟩
theorem Rp7.code {v : Value} {k : Int} (h : Aside (Rp7 A w0 p rb b z W c s W' c' s' own w)) (hv : Hid (Coded A v k)) : Calls Tryd.prog 9 #[v] w fun e w' => e = .returned (.int .i64 k) ∧ w' = w := code_of (A := A) h.it.g.sents hv.out
/-- a temporary box of the document's -/
theorem Rp7.temp (h : Aside (Rp7 A w0 p rb b z W c s W' c' s' own w)) (x y t : Int) : Aside (Rp7 A w0 p rb b z W c s W' c' s' (give own w.heap.size 5) (w.alloc (.cells #[.int .i64 x, .int .i64 y, .int .u64 t] 31)) ∧
    CellsO (give own w.heap.size 5) 5 (w.alloc (.cells #[.int .i64 x, .int .i64 y, .int .u64 t] 31)) w.heap.size 31 [.int .i64 x, .int .i64 y, .int .u64 t]) := by
  have k : Sn (fun _ => False) own w (give own w.heap.size 5) (w.alloc (.cells #[.int .i64 x, .int .i64 y, .int .u64 t] 31)) := Sn.quiet ((Keeps.refl _ _).alloc _) 5
  exact ⟨h.it.sn k (fun x => x) (fun x => x) (fun x => x) (fun x => x), ⟨Cells.new w _ _, give_new (Nat.le_refl _)⟩⟩
theorem Rp7.facts (h : Aside (Rp7 A w0 p rb b z W c s W' c' s' own w)) : (w.cell? ⟨rb, 0, none⟩ = some (.int .i64 W') ∧ w.cell? ⟨rb, 1, none⟩ = some (.int .i64 c') ∧ w.cell? ⟨rb, 2, none⟩ = some (.int .u64 s')) ∧
    w.frozen? ⟨rb, 0, none⟩ = false ∧ w.frozen? ⟨rb, 1, none⟩ = false ∧ w.frozen? ⟨rb, 2, none⟩ = false := ⟨(Rp7.cells h).1, h.it.ref.1.frozen 0, h.it.ref.1.frozen 1, h.it.ref.1.frozen 2⟩
/-- the document's new credit is laid into its box -/
def put3 (rb : Nat) (x y t : Int) (w : World) : World := ((w.setCell ⟨rb, 0, none⟩ (.int .i64 x)).setCell ⟨rb, 1, none⟩ (.int .i64 y)).setCell ⟨rb, 2, none⟩ (.int .u64 t)
theorem Rp7.put (h : Aside (Rp7 A w0 p rb b z W c s W' c' s' own w)) : Aside (Py7 A w0 p rb W c s own (put3 rb W c s w)) := by
  have k : Sn (fun k => k = 2) own w own (put3 rb W c s w) := ⟨fun _ _ => rfl, (((Keeps.refl _ _).setCell _ _ (fun _ => h.it.ref.2)).setCell _ _ (fun _ => h.it.ref.2)).setCell _ _ (fun _ => h.it.ref.2)⟩
  exact ⟨⟨h.it.send.sn k (by decide), ⟨((h.it.ref.1.setCell 0 _).setCell 1 _).setCell 2 _, h.it.ref.2⟩, h.it.g.sn k (by decide)⟩⟩
theorem Rp7.py (h : Aside (Rp7 A w0 p rb b z W c s W c s own w)) : Aside (Py7 A w0 p rb W c s own w) := ⟨⟨h.it.send, h.it.ref, h.it.g⟩⟩
theorem Py7.quiet (h : Aside (Py7 A w0 p rb W c s own w)) (k : Keeps Nowhere w w') : Aside (Py7 A w0 p rb W c s own w') := ⟨h.it.sn (Sn.same k)⟩
theorem Py7.code {v : Value} {k : Int} (h : Aside (Py7 A w0 p rb W c s own w)) (hv : Hid (Coded A v k)) : Calls Tryd.prog 9 #[v] w fun e w' => e = .returned (.int .i64 k) ∧ w' = w := code_of (A := A) h.it.g.sents hv.out
theorem Py7.have_ (h : Aside (Py7 A w0 p rb W c s own w)) (n : Nat) : Calls Tryd.prog 14 #[ptr p] (w.drewN n) fun e w' => e = .returned (.int .u32 c) ∧ ∃ m, w' = w.drewN m :=
  (haveC (Py7.quiet h ((Keeps.refl _ _).drewN n)).it.send).mono fun _ _ x => ⟨x.1, n, x.2⟩
theorem Py7.spent (h : Aside (Py7 A w0 p rb W c s own w)) (n : Nat) : Calls Tryd.prog 15 #[ptr p] (w.drewN n) fun e w' => e = .returned (.int .u64 s) ∧ ∃ m, w' = w.drewN m :=
  (spentC (Py7.quiet h ((Keeps.refl _ _).drewN n)).it.send).mono fun _ _ x => ⟨x.1, n, x.2⟩
end
end
end Go.Proofs.YtefaicgfcibofaaDoor
