/-
  StreamRefused's world: two streams, the pair's box, an op's box, what was seen.
-/
import Derived.Test.YteghehhifebhcaaDoorSlD
import Derived.Test.YteghehhifebhcaaDoorSlF
namespace Go.Proofs.YteghehhifebhcaaDoor
open Go.RowKit

section
variable {own own' : Nat → Nat} {w w' w0 W W' : World} {A : Nat → Addr} {d d2 e : Dm} {I : Nat → Prop} {g i p j q ob wb : Nat} {pl op wl : List Value}
theorem and_one (x : Int) : bits .and .i64 x 1 = 0 ∨ bits .and .i64 x 1 = 1 := by
  have h : (BitVec.ofInt 64 x &&& BitVec.ofInt 64 1).toNat < 2 := by
    rw [BitVec.toNat_and]
    have : (BitVec.ofInt 64 1).toNat = 1 := by decide
    rw [this]
    exact Nat.lt_succ_of_le Nat.and_le_right
  have e : bits .and .i64 x 1 = IntKind.i64.wrap (((BitVec.ofInt 64 x &&& BitVec.ofInt 64 1).toNat : Nat) : Int) := rfl
  rw [e, IntKind.wrap_i64]
  omega
/-- a failing call leaves the model as it is -/
theorem accE_keeps (h : d.accE ≠ 0) : d.accD = d := by
  revert h
  unfold Dm.accE Dm.accD
  cases d.drop <;> cases d.cut <;> cases d.acc <;> simp
theorem wrE_keeps (h : d.wrE ≠ 0) (xs : List Int) : d.wrD xs = d ∧ d.clD = d := by
  revert h
  unfold Dm.wrE Dm.wrD Dm.clD
  cases d.drop <;> cases d.cut <;> cases d.closing <;> simp
theorem rdE_keeps (ok : d.Ok) (n : Int) (h : d.rdE n ≠ 0) : d.rdD n = if d.rdE n = 25 then { d with told := true } else d := by
  by_cases h25 : d.rdE n = 25
  · rw [if_pos h25]
    unfold Dm.rdD
    rw [if_pos h25]
  · rw [if_neg h25]
    refine (rd_none ok (n := n) ?_ h25).2.1
    by_cases hn : n ≤ 0
    · exact .inl hn
    · refine .inr ?_
      by_cases hd : d.drop = true
      · exact ok.gon hd
      · revert h
        unfold Dm.rdE
        rw [if_neg (by omega), if_neg hd, if_neg (by omega)]
        by_cases hu : d.unread = []
        · intro _; exact hu
        · rw [if_neg hu]; intro h; exact absurd rfl h
theorem arE_keeps (n : Int) (xs : List Int) (hn : n = xs.length) (h : d.arE n ≠ 0) (f : Bool) : d.arD xs f = d := by
  revert h
  subst hn
  unfold Dm.arE Dm.arD
  by_cases h1 : d.deaf = true
  · rw [if_pos h1, if_pos h1]; intro _; rfl
  · rw [if_neg h1, if_neg h1]
    by_cases h2 : d.left < xs.length
    · rw [if_pos h2, if_pos h2]; intro _; rfl
    · rw [if_neg h2]; intro h; exact absurd rfl h
theorem grE_keeps (n : Int) (h : d.grE n ≠ 0) (f : Bool) : d.grD n f = d := by
  have e : d.grE n = 17 := by
    revert h
    unfold Dm.grE
    repeat' split
    all_goals simp
  unfold Dm.grD
  rw [if_pos e]
  split <;> rfl
/-- neither reset nor cut -/
def On (d : Dm) : Prop := d.drop = false ∧ d.cut = false
theorem On.acc (h : On d) : On d.accD := by unfold Dm.accD; split <;> exact h
theorem On.wr (h : On d) (xs : List Int) : On (d.wrD xs) := by unfold Dm.wrD; split <;> exact h
theorem On.cl (h : On d) : On d.clD := by unfold Dm.clD; split <;> exact h
theorem On.rd (h : On d) (n : Int) : On (d.rdD n) := by unfold Dm.rdD; split <;> exact h
theorem On.fr (h : On d) : On d.frD := by unfold Dm.frD; split <;> exact h
theorem On.ar (h : On d) (xs : List Int) (f : Bool) : On (d.arD xs f) := by
  unfold Dm.arD
  repeat' split
  all_goals exact h
theorem On.gr (h : On d) (n : Int) (f : Bool) : On (d.grD n f) := by
  unfold Dm.grD
  repeat' split
  all_goals exact h
/-- a round's world: the stream at hand (i, p, d), the other one, the boxes -/
structure Rg (A : Nat → Addr) (w0 : World) (g : Nat) (pl : List Value) (j q : Nat) (e : Dm) (ob : Nat) (op : List Value) (wb : Nat) (wl : List Value) (i p : Nat) (d : Dm) (own : Nat → Nat) (W : World) : Prop where
  s : StmI own i W p d
  t : StmI own j W q e
  ij : (i = 1 ∧ j = 6) ∨ (i = 6 ∧ j = 1)
  gs : Gs A w0 own W
  box : CellsO own 11 W g 81 pl
  op : CellsO own 12 W ob 56 op
  wa : wl = [] ∨ CellsO own 12 W wb 70 wl
theorem Rg.step (h : Aside (Rg A w0 g pl j q e ob op wb wl i p d own W)) (st : StmI own' i W' p d2) (s : Sn (Five i) own W own' W') : Aside (Rg A w0 g pl j q e ob op wb wl i p d2 own' W') := by
  have hij := h.it.ij
  exact ⟨st, h.it.t.sn s (fun k a b c => by unfold Five at c; omega), h.it.ij, h.it.gs.sn s (by unfold Five; omega), h.it.box.sn s (by unfold Five; omega), h.it.op.sn s (by unfold Five; omega), h.it.wa.imp id (fun x => x.sn s (by unfold Five; omega))⟩
theorem Rg.left (h : Aside (Rg A w0 g pl j q e ob op wb wl i p d own W)) (x : Left5 own i W p d2 W') : ∃ own', Aside (Rg A w0 g pl j q e ob op wb wl i p d2 own' W') := by
  obtain ⟨own', st, s⟩ := x
  exact ⟨own', Rg.step h st s⟩
theorem Rg.fresh (h : Aside (Rg A w0 g pl j q e ob op wb wl i p d own W)) (k : Keeps Nowhere W W') (r : Nat) : Aside (Rg A w0 g pl j q e ob op wb wl i p d (give own W.heap.size r) W') := by
  have s : Sn (fun _ => False) own W (give own W.heap.size r) W' := Sn.quiet k r
  exact ⟨h.it.s.sn s (fun _ _ _ x => x), h.it.t.sn s (fun _ _ _ x => x), h.it.ij, h.it.gs.sn s (fun x => x), h.it.box.sn s (fun x => x), h.it.op.sn s (fun x => x), h.it.wa.imp id (fun x => x.sn s (fun x => x))⟩
theorem Rg.quiet (h : Aside (Rg A w0 g pl j q e ob op wb wl i p d own W)) (k : Keeps Nowhere W W') : Aside (Rg A w0 g pl j q e ob op wb wl i p d own W') := by
  have s : Sn (fun _ => False) own W own W' := Sn.same k
  exact ⟨h.it.s.sn s (fun _ _ _ x => x), h.it.t.sn s (fun _ _ _ x => x), h.it.ij, h.it.gs.sn s (fun x => x), h.it.box.sn s (fun x => x), h.it.op.sn s (fun x => x), h.it.wa.imp id (fun x => x.sn s (fun x => x))⟩
theorem Rg.one (h : Aside (Rg A w0 g pl j q e ob op wb wl i p d own W)) : 1 ≤ i := by have := h.it.ij; omega
theorem Rg.far (h : Aside (Rg A w0 g pl j q e ob op wb wl i p d own W)) {r : Nat} (hr : 12 < r) : ¬ Five i r := by have := h.it.ij; unfold Five; omega
/-- what was seen is laid down -/
theorem Rg.seen (h : Aside (Rg A w0 g pl j q e ob op wb wl i p d own W)) (wl' : List Value) : Aside (Rg A w0 g pl j q e ob op W.heap.size wl' i p d (give own W.heap.size 12) (W.alloc (.cells wl'.toArray 70))) := by
  have X := Rg.fresh h ((Keeps.refl Nowhere W).alloc (.cells wl'.toArray 70)) 12
  exact ⟨X.it.s, X.it.t, X.it.ij, X.it.gs, X.it.box, X.it.op, .inr ⟨Cells.new W _ _, give_new (Nat.le_refl _)⟩⟩
theorem rg_view (h : Aside (Rg A w0 g pl j q e ob op wb wl i p d own W)) : Calls Tryd.prog 22 #[ptr p] W fun e' w' => e' = .returned (.agg (viewL d).toArray) ∧ Aside (Rg A w0 g pl j q e ob op wb wl i p d own w') := by
  obtain ⟨_, cu, u, sx, cx, ux, rx, H, _⟩ := h.it.s
  refine (view_at H).mono ?_
  rintro e' w' ⟨rfl, K⟩
  exact ⟨rfl, Rg.quiet h K.it⟩
/-- two views that are the same -/
theorem view_neq (d : Dm) (w : World) : (binOp .neq 70 (.agg (viewL d).toArray) (.agg (viewL d).toArray)).run Tryd.prog w = .ok (.bool false) w := by
  have hst : Tryd.prog.stoodInHeld 70 = false := by kernel_rfl
  have hfo : Tryd.prog.underlying 70 = some (.struct (Tryd.prog.fieldsOf 70)) := by kernel_rfl
  have h := run_equalIn_agg (P := Tryd.prog) (w := w) 9999 70 (viewL d).toArray (viewL d).toArray hfo hst
  rw [run_neq_struct, h]
  clear h hst hfo
  unfold viewL
  simp only [Program.fieldsOf, Tryd.underlying70]
  simp [Op.eqFields, go_sem]
end
end Go.Proofs.YteghehhifebhcaaDoor
