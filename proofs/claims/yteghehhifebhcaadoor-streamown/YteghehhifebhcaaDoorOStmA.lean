/-
  package stream: a stream in memory, by owners: its box i's, its staged bytes i + 1's, its credit i + 2's, its unread bytes i + 3's, its window i + 4's.
-/
import Derived.Test.YteghehhifebhcaaDoorStmP
import Derived.Test.YteghehhifebhcaaDoorOStA
import Derived.Test.YteghehhifebhcaaDoorOCredB
import Derived.Test.YteghehhifebhcaaDoorOGrantB
import Derived.Test.YteghehhifebhcaaDoorRingObyte
import Derived.Test.YteghehhifebhcaaDoorRowBO
namespace Go.Proofs.YteghehhifebhcaaDoor
open Go.RowKit

section
variable {own own' : Nat → Nat} {i : Nat} {w w' w0 : World} {p : Nat} {I : Nat → Prop} {A : Nat → Addr} {x : Value} {off : Bool} {W : Nat} {c l u o : Int}
def SendV (own : Nat → Nat) (i : Nat) (w : World) (x : Value) (off : Bool) (W : Nat) (c : Int) : Prop := (off = true ∧ x = .pointer none) ∨ (off = false ∧ ∃ q s, x = ptr q ∧ SendO own i w q W c s)
def RcvV (own : Nat → Nat) (i : Nat) (w : World) (x : Value) (off : Bool) (W : Nat) (l u o : Int) : Prop := (off = true ∧ x = .pointer none) ∨ (off = false ∧ ∃ q, x = ptr q ∧ RecvO own i w q W l u o)
theorem SendV.sn (h : SendV own i w x off W c) (s : Sn I own w own' w') (hi : ¬ I i) : SendV own' i w' x off W c := by
  rcases h with h | ⟨h, q, z, hx, H⟩
  · exact .inl h
  · exact .inr ⟨h, q, z, hx, H.sn s hi⟩
theorem RcvV.sn (h : RcvV own i w x off W l u o) (s : Sn I own w own' w') (hi : ¬ I i) : RcvV own' i w' x off W l u o := by
  rcases h with h | ⟨h, q, hx, H⟩
  · exact .inl h
  · exact .inr ⟨h, q, hx, H.sn s hi⟩
theorem ringO_sn {cap : Nat} {items : List Value} (h : Rbyte.RingO own i w x cap items) (s : Sn I own w own' w') (hi : ¬ I i) : Rbyte.RingO own' i w' x cap items :=
  (h.later s.keeps (fun _ e _ e' => hi (e ▸ e'))).mono (fun _ hk _ => (s.agree _ hk.2).trans hk.1)

def stmCells (d : Dm) (cu : Bool) (sx cx ux rx : Value) : List Value :=
  [.int .u32 d.id, .int .i64 d.frame, .bool d.mine, .int .i64 d.state, .bool d.acc, .bool d.closing, .bool d.told, .bool cu, sx, cx, ux, rx]
/-- a stream's parts beside its box -/
structure PartsO (own : Nat → Nat) (i : Nat) (w : World) (d : Dm) (cu : Bool) (u : Int) (sx cx ux rx : Value) : Prop where
  cutc : d.drop = false → cu = d.cut
  stg : Rbyte.RingO own (i + 1) w sx (if d.off then 0 else d.stage) (bv d.staged)
  crd : SendV own (i + 2) w cx d.off d.win d.credit
  unr : Rbyte.RingO own (i + 3) w ux (if d.drop then 0 else d.win) (bv d.unread)
  wnd : RcvV own (i + 4) w rx d.deaf d.win d.left u d.owed
/-- a stream -/
structure StmO (own : Nat → Nat) (i : Nat) (w : World) (p : Nat) (d : Dm) (cu : Bool) (u : Int) (sx cx ux rx : Value) : Prop where
  box : CellsO own i w p 96 (stmCells d cu sx cx ux rx)
  pt : PartsO own i w d cu u sx cx ux rx
variable {d : Dm} {cu : Bool} {sx cx ux rx : Value}
theorem PartsO.sn (h : PartsO own i w d cu u sx cx ux rx) (s : Sn I own w own' w') (hi : ∀ k, i < k → k < i + 5 → ¬ I k) : PartsO own' i w' d cu u sx cx ux rx :=
  ⟨h.cutc, ringO_sn h.stg s (hi _ (by omega) (by omega)), h.crd.sn s (hi _ (by omega) (by omega)), ringO_sn h.unr s (hi _ (by omega) (by omega)), h.wnd.sn s (hi _ (by omega) (by omega))⟩
theorem StmO.sn (h : StmO own i w p d cu u sx cx ux rx) (s : Sn I own w own' w') (hi : ∀ k, i ≤ k → k < i + 5 → ¬ I k) : StmO own' i w' p d cu u sx cx ux rx :=
  ⟨h.box.sn s (hi _ (by omega) (by omega)), h.pt.sn s (fun k a b => hi k (by omega) b)⟩
theorem StmO.quiet (h : StmO own i w p d cu u sx cx ux rx) (k : Keeps Nowhere w w') : StmO own i w' p d cu u sx cx ux rx := h.sn (I := fun _ => False) (Sn.same k) (fun _ _ _ x => x)
/-- the box is written -/
def BoxTo (p : Nat) (cs : List Value) (w w' : World) : Prop := Cells w' p 96 cs ∧ Keeps (fun k => k = p) w w'
theorem BoxTo.sn {cs : List Value} (h : BoxTo p cs w w') (ho : own p = i) : Sn (fun k => k = i) own w own w' := ⟨fun _ _ => rfl, h.2.mono (fun k e _ => by subst e; exact ho)⟩
theorem StmO.put {d' : Dm} {cu' : Bool} {u' : Int} {sx' cx' ux' rx' : Value} (hb : BoxTo p (stmCells d' cu' sx' cx' ux' rx') w w') (ho : own p = i) (h : PartsO own i w d' cu' u' sx' cx' ux' rx') : StmO own i w' p d' cu' u' sx' cx' ux' rx' :=
  ⟨⟨hb.1, ho⟩, h.sn (hb.sn ho) (fun k a _ e => by omega)⟩
theorem ring_nil (own : Nat → Nat) (i : Nat) (w : World) : Rbyte.RingO own i w (.pointer none) 0 (bv []) := .inl ⟨rfl, rfl, rfl⟩
theorem PartsO.accepted (h : PartsO own i w d cu u sx cx ux rx) : PartsO own i w { d with acc := true } cu u sx cx ux rx := ⟨h.cutc, h.stg, h.crd, h.unr, h.wnd⟩
theorem PartsO.heard (h : PartsO own i w d cu u sx cx ux rx) : PartsO own i w d.ends cu u sx cx ux (.pointer none) :=
  ⟨h.cutc, h.stg, h.crd, h.unr, .inl ⟨by simp [Dm.ends, Dm.deaf], rfl⟩⟩
theorem PartsO.lasted (h : PartsO own i w d cu u sx cx ux rx) (hs : d.staged = []) : PartsO own i w { d with last := true } cu u (.pointer none) (.pointer none) ux rx := by
  have e : Dm.off { d with last := true } = true := by simp [Dm.off]
  refine ⟨h.cutc, ?_, .inl ⟨e, rfl⟩, h.unr, h.wnd⟩
  rw [e]
  show Rbyte.RingO own (i + 1) w (.pointer none) 0 (bv d.staged)
  rw [hs]
  exact ring_nil _ _ _
theorem PartsO.dropped (own : Nat → Nat) (i : Nat) (w : World) (d : Dm) (cu : Bool) (u : Int) : PartsO own i w d.dropD cu u (.pointer none) (.pointer none) (.pointer none) (.pointer none) :=
  ⟨fun e => by simp [Dm.dropD] at e, ring_nil _ _ _, .inl ⟨rfl, rfl⟩, ring_nil _ _ _, .inl ⟨rfl, rfl⟩⟩
theorem PartsO.severed (h : PartsO own i w d cu u sx cx ux rx) (hk : d.Ok) : PartsO own i w d.cutD true u (.pointer none) (.pointer none) ux (.pointer none) := by
  unfold Dm.cutD
  cases e : d.drop
  · refine ⟨fun _ => rfl, ?_, .inl ⟨?_, rfl⟩, ?_, .inl ⟨?_, rfl⟩⟩
    · simp only [Dm.off, Bool.false_or, Bool.true_or, Bool.false_eq_true, if_false, if_true]
      exact ring_nil _ _ _
    · simp [Dm.off]
    · have := h.unr
      simp only [e, Bool.false_eq_true, if_false] at this ⊢
      exact this
    · simp [Dm.deaf]
  · have o : d.off = true := by simp [Dm.off, e]
    have q : d.deaf = true := by simp [Dm.deaf, e]
    simp only [if_true]
    refine ⟨(fun x => by rw [e] at x; cases x), ?_, .inl ⟨o, rfl⟩, h.unr, .inl ⟨q, rfl⟩⟩
    rw [hk.off o, o]
    exact ring_nil _ _ _
theorem nx_acc (d : Dm) (h1 : d.drop = false) (h2 : d.acc = false) : nxS d.state (if d.mine then 3 else 2) = Dm.state { d with acc := true } := by
  obtain ⟨_, _, _, _, mine, acc, _, _, last, _, _, _, _, heard, _, drop, _⟩ := d
  simp only at h1 h2
  subst h1 h2
  unfold Dm.state
  cases last <;> cases heard <;> cases mine <;> rfl
theorem nx_last (d : Dm) (h1 : d.drop = false) (h2 : d.last = false) : nxS d.state 4 = Dm.state { d with last := true } := by
  obtain ⟨_, _, _, _, mine, acc, _, _, last, _, _, _, _, heard, _, drop, _⟩ := d
  simp only at h1 h2
  subst h1 h2
  unfold Dm.state
  cases acc <;> cases heard <;> cases mine <;> rfl
theorem nx_heard (d : Dm) (h1 : d.drop = false) (h2 : d.heard = false) : nxS d.state 5 = d.ends.state := by
  obtain ⟨_, _, _, _, mine, acc, _, _, last, _, _, _, _, heard, _, drop, _⟩ := d
  simp only at h1 h2
  subst h1 h2
  unfold Dm.state Dm.ends
  cases acc <;> cases last <;> cases mine <;> rfl
theorem nx_drop (d : Dm) : nxS d.state 6 = d.dropD.state := by
  obtain ⟨_, _, _, _, mine, acc, _, _, last, _, _, _, _, heard, _, drop, _⟩ := d
  unfold Dm.state Dm.dropD
  cases drop <;> cases acc <;> cases last <;> cases heard <;> cases mine <;> rfl
/-- the ground: sentinels and the table of the states -/
structure Gs (A : Nat → Addr) (w0 : World) (own : Nat → Nat) (w : World) : Prop where
  g : Ground w0.heap.size w0 own w
  s : St9 A w0
theorem Gs.st (h : Gs A w0 own w) : St9 A w := h.s.later h.g.bel
theorem Gs.sn (h : Gs A w0 own w) (s : Sn I own w own' w') (hi : ¬ I 0) : Gs A w0 own' w' := ⟨h.g.sn s hi, h.s⟩
theorem Gs.quiet (h : Gs A w0 own w) (k : Keeps Nowhere w w') : Gs A w0 own w' := ⟨h.g.quiet k, h.s⟩
theorem Gs.start (h : St9 A w) : Gs A w (fun _ => 0) w := ⟨⟨fun _ _ => rfl, Below.refl _ _, Nat.le_refl _⟩, h⟩
/-- a stream above the ground -/
structure StmW (A : Nat → Addr) (w0 : World) (own : Nat → Nat) (i : Nat) (w : World) (p : Nat) (d : Dm) (cu : Bool) (u : Int) (sx cx ux rx : Value) : Prop where
  s : StmO own i w p d cu u sx cx ux rx
  g : Gs A w0 own w
  i1 : 1 ≤ i
theorem StmW.quiet (h : Aside (StmW A w0 own i w p d cu u sx cx ux rx)) (k : Keeps Nowhere w w') : Aside (StmW A w0 own i w' p d cu u sx cx ux rx) := ⟨⟨h.it.s.quiet k, h.it.g.quiet k, h.it.i1⟩⟩
theorem StmW.drewN (h : Aside (StmW A w0 own i w p d cu u sx cx ux rx)) (m : Nat) : Aside (StmW A w0 own i (w.drewN m) p d cu u sx cx ux rx) := StmW.quiet h ((Keeps.refl _ _).drewN m)
theorem StmO.cells (h : StmO own i w p d cu u sx cx ux rx) : w.cell? ⟨p, 0, none⟩ = some (.int .u32 d.id) ∧ w.cell? ⟨p, 1, none⟩ = some (.int .i64 d.frame) ∧ w.cell? ⟨p, 2, none⟩ = some (.bool d.mine) ∧ w.cell? ⟨p, 3, none⟩ = some (.int .i64 d.state) ∧
    w.cell? ⟨p, 4, none⟩ = some (.bool d.acc) ∧ w.cell? ⟨p, 5, none⟩ = some (.bool d.closing) ∧ w.cell? ⟨p, 6, none⟩ = some (.bool d.told) ∧ w.cell? ⟨p, 7, none⟩ = some (.bool cu) ∧
    w.cell? ⟨p, 8, none⟩ = some sx ∧ w.cell? ⟨p, 9, none⟩ = some cx ∧ w.cell? ⟨p, 10, none⟩ = some ux ∧ w.cell? ⟨p, 11, none⟩ = some rx := by
  have := h.box.1.cell
  exact ⟨this 0, this 1, this 2, this 3, this 4, this 5, this 6, this 7, this 8, this 9, this 10, this 11⟩
theorem StmW.cells (h : Aside (StmW A w0 own i w p d cu u sx cx ux rx)) : w.cell? ⟨p, 0, none⟩ = some (.int .u32 d.id) ∧ w.cell? ⟨p, 1, none⟩ = some (.int .i64 d.frame) ∧ w.cell? ⟨p, 2, none⟩ = some (.bool d.mine) ∧ w.cell? ⟨p, 3, none⟩ = some (.int .i64 d.state) ∧
    w.cell? ⟨p, 4, none⟩ = some (.bool d.acc) ∧ w.cell? ⟨p, 5, none⟩ = some (.bool d.closing) ∧ w.cell? ⟨p, 6, none⟩ = some (.bool d.told) ∧ w.cell? ⟨p, 7, none⟩ = some (.bool cu) ∧
    w.cell? ⟨p, 8, none⟩ = some sx ∧ w.cell? ⟨p, 9, none⟩ = some cx ∧ w.cell? ⟨p, 10, none⟩ = some ux ∧ w.cell? ⟨p, 11, none⟩ = some rx := h.it.s.cells

theorem mayGo_state (d : Dm) : mayGo d.state = (!d.drop && !d.last) := by
  obtain ⟨_, _, _, _, mine, acc, _, _, last, _, _, _, _, heard, _, drop, _⟩ := d
  unfold Dm.state
  cases drop <;> cases last <;> cases heard <;> cases acc <;> cases mine <;> rfl
theorem mayCome_state (d : Dm) : mayCome d.state = (!d.drop && !d.heard) := by
  obtain ⟨_, _, _, _, mine, acc, _, _, last, _, _, _, _, heard, _, drop, _⟩ := d
  unfold Dm.state
  cases drop <;> cases last <;> cases heard <;> cases acc <;> cases mine <;> rfl
theorem sends_val (h : d.drop = false → cu = d.cut) : (!cu && mayGo d.state) = !d.off := by
  rw [mayGo_state]
  unfold Dm.off
  revert h
  cases d.drop <;> cases d.cut <;> cases d.last <;> cases cu <;> simp
theorem hears_val (h : d.drop = false → cu = d.cut) : (!cu && mayCome d.state) = !d.deaf := by
  rw [mayCome_state]
  unfold Dm.deaf
  revert h
  cases d.drop <;> cases d.cut <;> cases d.heard <;> cases cu <;> simp
end
end Go.Proofs.YteghehhifebhcaaDoor
