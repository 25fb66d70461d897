/-
  layer 16's laws: SameNumbers, awake; what lies in memory within a step
-/
import Derived.Test.YtolmiecbgkdlfaaDoorBkS
import Derived.Deep.RegionHeld3
import Derived.BigRegion
namespace Go.Proofs.YtolmiecbgkdlfaaDoor
open Go.RowKit

variable {A : Nat → Addr} {w w' W w0 : World} {own own' : Nat → Nat} {i p most nb b : Nat} {L Lp Ld Ln : List Nat} {v vn : Value} {I : Nat → Prop} {kd m : Int} {id : Nat}

theorem ReadsK.at1 {v : Value} (h : ReadsK 1 w v L.length (L.map e32)) : ∃ a c, v = .slice a L.length c ∧ L.length ≤ c ∧ c ≤ maxLen ∧ ∀ j x, L[j]? = some x → ∃ g o, a = some ⟨g, o, none⟩ ∧ w.cell? ⟨g, o + j, none⟩ = some (.int .u32 (x : Nat)) := by
  obtain ⟨_, a, c, e, h1, h2, _, hc⟩ := h
  exact ⟨a, c, e, h1, h2, fun j x hj => hc j _ (by rw [List.getElem?_map, hj]; rfl)⟩
theorem same_nums (a b : Value) (l : List Nat) (ha : ReadsK 1 w a l.length (l.map e32)) (hb : ReadsK 1 w b l.length (l.map e32)) :
    Calls Tryd.prog 20 #[a, b] w fun e w' => e = .returned (.bool true) ∧ Aside (Keeps Nowhere w w') := by
  obtain ⟨pa, ca, rfl, hla, hma, hca⟩ := ReadsK.at1 ha
  obtain ⟨pb, cb, rfl, hlb, hmb, hcb⟩ := ReadsK.at1 hb
  obtain ⟨n, hn⟩ : ∃ n, n = l.length := ⟨_, rfl⟩
  have hl : n ≤ 9223372036854775807 := by unfold maxLen at hma; omega
  have CA : Aside (∀ k, k < n → ∃ x o u, pa = some ⟨x, o, none⟩ ∧ l[k]? = some u ∧ w.cell? ⟨x, o + k, none⟩ = some (.int .u32 (u : Nat))) := ⟨by
    intro k hk
    have e := List.getElem?_eq_getElem (l := l) (i := k) (by omega)
    obtain ⟨g, o, h1, h2⟩ := hca k _ e
    exact ⟨g, o, _, h1, e, h2⟩⟩
  have CB : Aside (∀ k u, l[k]? = some u → ∃ x o, pb = some ⟨x, o, none⟩ ∧ w.cell? ⟨x, o + k, none⟩ = some (.int .u32 (u : Nat))) := ⟨fun k u e => hcb k u e⟩
  rw [← hn] at hla hlb ⊢
  clear hca hcb hn hma hmb ha hb
  go_enter Tryd.func20, Tryd.ntmps20
  go_wp2
  go_loopw [5] (fun i wr => ∃ k : Nat, k ≤ n ∧ i = .int .i64 k ∧ Aside (Keeps Nowhere w wr)) (fun i _ => n - natOf i)
  case atStart => exact ⟨0, Nat.zero_le _, rfl, ⟨Keeps.refl _ _⟩⟩
  case round =>
    obtain ⟨k, hk, rfl, HB⟩ := hrel
    by_cases hkl : k < n
    · obtain ⟨x, o, u, rfl, hu, hx⟩ := CA.it k hkl
      obtain ⟨y, o2, rfl, hy⟩ := CB.it k u hu
      have cx : wr.cell? ⟨x, o + k, none⟩ = some (.int .u32 u) := by rw [HB.it.bel.cell (World.block_lt_of_cell? w _ hx)]; exact hx
      have cy : wr.cell? ⟨y, o2 + k, none⟩ = some (.int .u32 u) := by rw [HB.it.bel.cell (World.block_lt_of_cell? w _ hy)]; exact hy
      clear hx hy hu CA CB
      go_wp2_with fail
      go_quiet (fail)
      go_wp2
      go_roundw
      case rel => exact ⟨k + 1, by omega, by go_num, ⟨HB.it.drewN _⟩⟩
      case measure => simp [natOf]; omega
    · obtain rfl : k = n := by omega
      go_wp2
      go_ret
      exact ⟨rfl, HB⟩

/-- a Backlog (owner i) and the document's (owner 9) -/
structure Tp (own : Nat → Nat) (i : Nat) (W : World) (p most : Nat) (L : List Nat) (v : Value) : Prop where
  t : BkO own i W p most L
  d : RdN own W v L
  u : L.Nodup
theorem Tp.sn (h : Tp own i W p most L v) (s : Sn I own W own' w') (h1 : ¬ I i) (h2 : ¬ I 9) : Tp own' i w' p most L v := ⟨h.t.sn s h1, h.d.sn s h2, h.u⟩
theorem Tp.quiet (h : Tp own i W p most L v) (hk : Keeps Nowhere W w') : Tp own i w' p most L v := ⟨h.t.quiet hk, h.d.quiet hk, h.u⟩
/-- what a step leaves -/
def Ends16 (own : Nat → Nat) (i : Nat) (w : World) (p most : Nat) (e : Ending) (w' : World) : Prop :=
  ∃ a l c L' own', e = .returned (.tuple #[.agg #[.int .i64 most, .slice a l c], .bool true]) ∧ Aside (Tp own' i w' p most L' (.slice a l c) ∧ Sn (fun k => k = i) own w own' w')

theorem Ends16.drew {e : Ending} (h : Ends16 own i w p most e W) : Ends16 own i w p most e W.drew := by
  obtain ⟨a, l, c, L', own', he, X⟩ := h
  exact ⟨a, l, c, L', own', he, ⟨X.it.1.quiet (Keeps.refl _ _).drew, ⟨X.it.2.agree, X.it.2.keeps.drew⟩⟩⟩
/-- within a step, above the caller's world w: the program's list is Lp, the document's Ld (v); boxes are owner 8's -/
structure Sx (own : Nat → Nat) (i : Nat) (w : World) (own' : Nat → Nat) (W : World) (p most : Nat) (Lp : List Nat) (b : Nat) (kd m : Int) (id : Nat) (v : Value) (Ld : List Nat) : Prop where
  t : BkO own' i W p most Lp
  d : RdN own' W v Ld
  c0 : CellsO own' 8 W b 31 [.int .i64 most, v]
  c1 : CellsO own' 8 W (b + 1) 36 [.int .i64 kd, .int .i64 m, .int .u32 (id : Nat)]
  c2 : ∃ r0 r1, CellsO own' 8 W (b + 1 + 1) 31 [r0, r1]
  n : Sn (fun k => k = i) own w own' W
  b : w.heap.size ≤ b
theorem Sx.sn {own2 : Nat → Nat} (h : Sx own i w own' W p most Lp b kd m id v Ld) (s : Sn I own' W own2 w') (h1 : ¬ I i) (h8 : ¬ I 8) (h9 : ¬ I 9) (hI : ∀ k, I k → k = i) : Sx own i w own2 w' p most Lp b kd m id v Ld := by
  obtain ⟨r0, r1, h2⟩ := h.c2
  exact ⟨h.t.sn s h1, h.d.sn s h9, h.c0.sn s h8, h.c1.sn s h8, ⟨r0, r1, h2.sn s h8⟩, h.n.trans (s.mono hI), h.b⟩
theorem Sx.quiet (h : Sx own i w own' W p most Lp b kd m id v Ld) (hk : Keeps Nowhere W w') : Sx own i w own' w' p most Lp b kd m id v Ld := h.sn (I := fun _ => False) (Sn.same hk) (fun x => x) (fun x => x) (fun x => x) (fun _ x => x.elim)
theorem Sx.step (h : Sx own i w own' W p most Lp b kd m id v Ld) (hk : Keeps Nowhere W w') (r : Nat) : Sx own i w (give own' W.heap.size r) w' p most Lp b kd m id v Ld := h.sn (I := fun _ => False) (Sn.quiet hk r) (fun x => x) (fun x => x) (fun x => x) (fun _ x => x.elim)
/-- the program's call has changed its list -/
theorem Sx.prog {own2 : Nat → Nat} (h : Sx own i w own' W p most Lp b kd m id v Ld) (hi : i ≠ 8 ∧ i ≠ 9) {L' : List Nat} (ht : BkO own2 i w' p most L') (s : Sn (fun k => k = i) own' W own2 w') : Sx own i w own2 w' p most L' b kd m id v Ld := by
  obtain ⟨r0, r1, h2⟩ := h.c2
  have e8 : ¬ (8 = i) := fun e => hi.1 e.symm
  exact ⟨ht, h.d.sn s (fun e => hi.2 e.symm), h.c0.sn s e8, h.c1.sn s e8, ⟨r0, r1, h2.sn s e8⟩, h.n.trans s, h.b⟩
theorem Sx.cells (h : Aside (Sx own i w own' W p most Lp b kd m id v Ld)) : W.cell? ⟨b, 0, none⟩ = some (.int .i64 most) ∧ W.cell? ⟨b, 1, none⟩ = some v ∧ W.cell? ⟨b + 1, 0, none⟩ = some (.int .i64 kd) ∧ W.cell? ⟨b + 1, 2, none⟩ = some (.int .u32 (id : Nat)) :=
  ⟨by rw [h.it.c0.1.cell]; rfl, by rw [h.it.c0.1.cell]; rfl, by rw [h.it.c1.1.cell]; rfl, by rw [h.it.c1.1.cell]; rfl⟩
theorem Sx.cellsS (h : Aside (Sx own i w own' W p most Lp b kd m id v Ld)) {x y : Value} : ((W.setCell ⟨b + 1 + 1, 0, none⟩ x).setCell ⟨b + 1 + 1, 1, none⟩ y).cell? ⟨b, 0, none⟩ = some (.int .i64 most) ∧ ((W.setCell ⟨b + 1 + 1, 0, none⟩ x).setCell ⟨b + 1 + 1, 1, none⟩ y).cell? ⟨b, 1, none⟩ = some v ∧ ((W.setCell ⟨b + 1 + 1, 0, none⟩ x).setCell ⟨b + 1 + 1, 1, none⟩ y).cell? ⟨b + 1, 0, none⟩ = some (.int .i64 kd) ∧ ((W.setCell ⟨b + 1 + 1, 0, none⟩ x).setCell ⟨b + 1 + 1, 1, none⟩ y).cell? ⟨b + 1, 2, none⟩ = some (.int .u32 (id : Nat)) := by
  have e0 := (h.it.c0.1.setOther ⟨b + 1 + 1, 0, none⟩ x (by simp; omega)).setOther ⟨b + 1 + 1, 1, none⟩ y (by simp; omega)
  have e1 := (h.it.c1.1.setOther ⟨b + 1 + 1, 0, none⟩ x (by simp)).setOther ⟨b + 1 + 1, 1, none⟩ y (by simp)
  exact ⟨by rw [e0.cell]; rfl, by rw [e0.cell]; rfl, by rw [e1.cell]; rfl, by rw [e1.cell]; rfl⟩
theorem Sx.res (h : Aside (Sx own i w own' W p most Lp b kd m id v Ld)) : ∃ r0 r1, W.cell? ⟨b + 1 + 1, 0, none⟩ = some r0 ∧ W.cell? ⟨b + 1 + 1, 1, none⟩ = some r1 ∧ W.frozen? ⟨b + 1 + 1, 0, none⟩ = false ∧ W.frozen? ⟨b + 1 + 1, 1, none⟩ = false := by
  obtain ⟨r0, r1, h2⟩ := h.it.c2
  exact ⟨r0, r1, by rw [h2.1.cell]; rfl, by rw [h2.1.cell]; rfl, h2.1.frozen 0, h2.1.frozen 1⟩
/-- the answer's box is written: u is the document's list behind the step -/
theorem Sx.fin {a : Option Addr} {l c : Nat} (h : Aside (Sx own i w own' W p most Lp b kd m id v Ld)) (hd : Aside (RdN own' W (.slice a l c) Lp)) (hu : Aside (Lp.Nodup)) (hi : i ≠ 8 ∧ i ≠ 9) :
    ((W.setCell ⟨b + 1 + 1, 0, none⟩ (.int .i64 most)).setCell ⟨b + 1 + 1, 1, none⟩ (.slice a l c)).cell? ⟨b + 1 + 1, 0, none⟩ = some (.int .i64 most) ∧ ((W.setCell ⟨b + 1 + 1, 0, none⟩ (.int .i64 most)).setCell ⟨b + 1 + 1, 1, none⟩ (.slice a l c)).cell? ⟨b + 1 + 1, 1, none⟩ = some (.slice a l c) ∧
      Aside (Ends16 own i w p most (.returned (.tuple #[.agg #[.int .i64 most, .slice a l c], .bool true])) ((W.setCell ⟨b + 1 + 1, 0, none⟩ (.int .i64 most)).setCell ⟨b + 1 + 1, 1, none⟩ (.slice a l c))) := by
  obtain ⟨r0, r1, h2⟩ := h.it.c2
  have e2 := (h2.1.setCell 0 (.int .i64 most)).setCell 1 (.slice a l c)
  have s8 : Sn (fun k => k = 8) own' W own' ((W.setCell ⟨b + 1 + 1, 0, none⟩ (.int .i64 most)).setCell ⟨b + 1 + 1, 1, none⟩ (.slice a l c)) := ⟨fun _ _ => rfl, ((Keeps.refl _ _).setCell _ _ (fun _ => h2.2)).setCell _ _ (fun _ => h2.2)⟩
  refine ⟨by rw [e2.cell]; rfl, by rw [e2.cell]; rfl, ⟨a, l, c, Lp, own', rfl, ⟨⟨h.it.t.sn s8 hi.1, hd.it.sn s8 (by decide), hu.it⟩, ⟨h.it.n.agree, ?_⟩⟩⟩⟩
  exact h.it.n.keeps.next (S' := fun k => k = b + 1 + 1) (((Keeps.refl (fun k => k = b + 1 + 1) W).setCell ⟨b + 1 + 1, 0, none⟩ _ (fun _ => rfl)).setCell ⟨b + 1 + 1, 1, none⟩ _ (fun _ => rfl)) (fun k e hlt => by have := h.it.b; omega)
theorem Sx.start (h : Tp own i w p most L v) (kd m : Int) (id : Nat) : Sx own i w (give own w.heap.size 8) (((w.alloc (.cells #[.int .i64 most, v] 31)).alloc (.cells #[.int .i64 kd, .int .i64 m, .int .u32 (id : Nat)] 36)).alloc (.cells #[.int .i64 0, .slice none 0 0] 31)) p most L w.heap.size kd m id v L := by
  have K : Keeps Nowhere w (((w.alloc (.cells #[.int .i64 most, v] 31)).alloc (.cells #[.int .i64 kd, .int .i64 m, .int .u32 (id : Nat)] 36)).alloc (.cells #[.int .i64 0, .slice none 0 0] 31)) := (((Keeps.refl _ _).alloc _).alloc _).alloc _
  refine ⟨h.t.step K 8, h.d.step K 8, ⟨?_, give_new (by omega)⟩, ⟨?_, give_new (by omega)⟩, ⟨.int .i64 0, .slice none 0 0, ⟨?_, give_new (by omega)⟩⟩, Sn.quiet K 8, Nat.le_refl _⟩
  · exact (Cells.new w _ [.int .i64 most, v]).later (S := Nowhere) (((Keeps.refl _ _).alloc _).alloc _) (fun x => x)
  · have h := Cells.new (w.alloc (.cells #[.int .i64 most, v] 31)) 36 [.int .i64 kd, .int .i64 m, .int .u32 (id : Nat)]
    rw [World.size_alloc] at h
    exact h.later (S := Nowhere) ((Keeps.refl _ _).alloc _) (fun x => x)
  · have h := Cells.new ((w.alloc (.cells #[.int .i64 most, v] 31)).alloc (.cells #[.int .i64 kd, .int .i64 m, .int .u32 (id : Nat)] 36)) 31 [.int .i64 0, .slice none 0 0]
    rw [World.size_alloc, World.size_alloc] at h
    exact h
/-- the next list (Ln) in its box nb -/
structure Sy (own : Nat → Nat) (i : Nat) (w : World) (own' : Nat → Nat) (W : World) (p most : Nat) (Lp : List Nat) (b : Nat) (kd m : Int) (id : Nat) (v : Value) (Ld : List Nat) (nb : Nat) (vn : Value) (Ln : List Nat) : Prop where
  x : Sx own i w own' W p most Lp b kd m id v Ld
  d : RdN own' W vn Ln
  c : CellsO own' 8 W nb 31 [.int .i64 most, vn]
  n : ¬ nb = b + 1 + 1
theorem Sy.quiet (h : Sy own i w own' W p most Lp b kd m id v Ld nb vn Ln) (hk : Keeps Nowhere W w') : Sy own i w own' w' p most Lp b kd m id v Ld nb vn Ln := ⟨h.x.quiet hk, h.d.quiet hk, h.c.sn (I := fun _ => False) (Sn.same hk) (fun x => x), h.n⟩
theorem Sy.cells (h : Aside (Sy own i w own' W p most Lp b kd m id v Ld nb vn Ln)) : W.cell? ⟨nb, 0, none⟩ = some (.int .i64 most) ∧ W.cell? ⟨nb, 1, none⟩ = some vn ∧ W.cell? ⟨b + 1, 2, none⟩ = some (.int .u32 (id : Nat)) :=
  ⟨by rw [h.it.c.1.cell]; rfl, by rw [h.it.c.1.cell]; rfl, by rw [h.it.x.c1.1.cell]; rfl⟩
theorem Sy.cellsS (h : Aside (Sy own i w own' W p most Lp b kd m id v Ld nb vn Ln)) {x y : Value} : ((W.setCell ⟨b + 1 + 1, 0, none⟩ x).setCell ⟨b + 1 + 1, 1, none⟩ y).cell? ⟨nb, 0, none⟩ = some (.int .i64 most) ∧ ((W.setCell ⟨b + 1 + 1, 0, none⟩ x).setCell ⟨b + 1 + 1, 1, none⟩ y).cell? ⟨nb, 1, none⟩ = some vn ∧ ((W.setCell ⟨b + 1 + 1, 0, none⟩ x).setCell ⟨b + 1 + 1, 1, none⟩ y).cell? ⟨b + 1, 2, none⟩ = some (.int .u32 (id : Nat)) := by
  have e0 := (h.it.c.1.setOther ⟨b + 1 + 1, 0, none⟩ x h.it.n).setOther ⟨b + 1 + 1, 1, none⟩ y h.it.n
  have e1 := (h.it.x.c1.1.setOther ⟨b + 1 + 1, 0, none⟩ x (by simp)).setOther ⟨b + 1 + 1, 1, none⟩ y (by simp)
  exact ⟨by rw [e0.cell]; rfl, by rw [e0.cell]; rfl, by rw [e1.cell]; rfl⟩
theorem Sy.cellsD (h : Aside (Sy own i w own' W p most Lp b kd m id v Ld nb vn Ln)) {x y : Value} : ((W.setCell ⟨b + 1 + 1, 0, none⟩ x).setCell ⟨b + 1 + 1, 1, none⟩ y).drew.cell? ⟨nb, 0, none⟩ = some (.int .i64 most) ∧ ((W.setCell ⟨b + 1 + 1, 0, none⟩ x).setCell ⟨b + 1 + 1, 1, none⟩ y).drew.cell? ⟨nb, 1, none⟩ = some vn ∧ ((W.setCell ⟨b + 1 + 1, 0, none⟩ x).setCell ⟨b + 1 + 1, 1, none⟩ y).drew.cell? ⟨b + 1, 2, none⟩ = some (.int .u32 (id : Nat)) := Sy.cellsS h
/-- the document has answered: its list is laid into a box -/
theorem Sx.next (h : Sx own i w own' W p most Lp b kd m id v Ld) (hk : Keeps Nowhere W w') (hd : RdN (give own' W.heap.size 9) w' vn Ln) : ∃ own2, Sy own i w own2 (w'.alloc (.cells #[.int .i64 most, vn] 31)) p most Lp b kd m id v Ld w'.heap.size vn Ln := by
  have h' := h.step hk 9
  obtain ⟨r0, r1, h2⟩ := h'.c2
  refine ⟨give (give own' W.heap.size 9) w'.heap.size 8, h'.step ((Keeps.refl _ _).alloc _) 8, hd.step ((Keeps.refl _ _).alloc _) 8, ⟨Cells.new w' _ [.int .i64 most, vn], give_new (Nat.le_refl _)⟩, ?_⟩
  have := h2.1.lt
  omega
theorem Sy.prog {own2 : Nat → Nat} (h : Sy own i w own' W p most Lp b kd m id v Ld nb vn Ln) (hi : i ≠ 8 ∧ i ≠ 9) {L' : List Nat} (ht : BkO own2 i w' p most L') (s : Sn (fun k => k = i) own' W own2 w') : Sy own i w own2 w' p most L' b kd m id v Ld nb vn Ln :=
  ⟨h.x.prog hi ht s, h.d.sn s (fun e => hi.2 e.symm), h.c.sn s (fun e => hi.1 e.symm), h.n⟩
end Go.Proofs.YtolmiecbgkdlfaaDoor
