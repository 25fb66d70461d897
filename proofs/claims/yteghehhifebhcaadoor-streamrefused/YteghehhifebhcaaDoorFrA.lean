/-
  StreamFrames' world: a stream, the configuration's box, what was written and what frames bore.
-/
import Derived.Test.YteghehhifebhcaaDoorSlB
import Derived.Deep.Cut
import Derived.Deep.DeepCutAuto
namespace Go.Proofs.YteghehhifebhcaaDoor
open Go.RowKit

section
variable {own own' : Nat → Nat} {w w' w0 W W' : World} {p cb ob : Nat} {A : Nat → Addr} {d d' : Dm} {z : Cf} {op : List Value} {wv bo : Value} {wrote bore : List Int} {I : Nat → Prop}
structure Sf (A : Nat → Addr) (w0 : World) (cb p : Nat) (z : Cf) (ob : Nat) (op : List Value) (d : Dm) (wv : Value) (wrote : List Int) (bo : Value) (bore : List Int) (own : Nat → Nat) (W : World) : Prop where
  st : StmI own 1 W p d
  g : Gs A w0 own W
  cf : CellsO own 11 W cb 23 z.cells
  op : op = [] ∨ CellsO own 12 W ob 56 op
  wr : RowB own 6 W wv wrote
  bo : RowB own 7 W bo bore
theorem rowB_sn {o : Nat} {v : Value} {ns : List Int} (h : RowB own o W v ns) (s : Sn I own W own' W') (ho : ¬ I o) : RowB own' o W' v ns := h.sn s ho
theorem Sf.sn (h : Sf A w0 cb p z ob op d wv wrote bo bore own W) (s : Sn I own W own' W') (hI : ∀ k, k < 13 → ¬ I k) : Sf A w0 cb p z ob op d wv wrote bo bore own' W' :=
  ⟨h.st.sn s (fun k _ b => hI k (by omega)), h.g.sn s (hI 0 (by omega)), h.cf.sn s (hI 11 (by omega)), h.op.imp id (fun x => x.sn s (hI 12 (by omega))), h.wr.sn s (hI 6 (by omega)), h.bo.sn s (hI 7 (by omega))⟩
theorem Sf.quiet (h : Aside (Sf A w0 cb p z ob op d wv wrote bo bore own W)) (k : Keeps Nowhere W W') : Aside (Sf A w0 cb p z ob op d wv wrote bo bore own W') := ⟨h.it.sn (I := fun _ => False) (Sn.same k) (fun _ _ x => x)⟩
theorem Sf.fresh (h : Aside (Sf A w0 cb p z ob op d wv wrote bo bore own W)) (k : Keeps Nowhere W W') (r : Nat) : Aside (Sf A w0 cb p z ob op d wv wrote bo bore (give own W.heap.size r) W') := ⟨h.it.sn (I := fun _ => False) (Sn.quiet k r) (fun _ _ x => x)⟩
theorem Sf.step (h : Aside (Sf A w0 cb p z ob op d wv wrote bo bore own W)) (x : Left5 own 1 W p d' W') : ∃ own', Aside (Sf A w0 cb p z ob op d' wv wrote bo bore own' W') := by
  obtain ⟨own', st, s⟩ := x
  refine ⟨own', ⟨st, h.it.g.sn s (by unfold Five; omega), h.it.cf.sn s (by unfold Five; omega), h.it.op.imp id (fun x => x.sn s (by unfold Five; omega)), h.it.wr.sn s (by unfold Five; omega), h.it.bo.sn s (by unfold Five; omega)⟩⟩
theorem Sf.stepO (h : Aside (Sf A w0 cb p z ob op d wv wrote bo bore own W)) (st : StmI own' 1 W' p d') (s : Sn (Five 1) own W own' W') : Aside (Sf A w0 cb p z ob op d' wv wrote bo bore own' W') :=
  ⟨st, h.it.g.sn s (by unfold Five; omega), h.it.cf.sn s (by unfold Five; omega), h.it.op.imp id (fun x => x.sn s (by unfold Five; omega)), h.it.wr.sn s (by unfold Five; omega), h.it.bo.sn s (by unfold Five; omega)⟩
theorem Sf.framed {sq : Option Addr} {K : Nat} {fl : Int} {xs : List Int} {hd : Int} (h : Aside (Sf A w0 cb p z ob op d wv wrote bo bore own W)) (R : RowO own 14 W 5 (.slice sq K K) (bv xs)) (W6 : World) (hW : W6 = W.alloc (.cells #[.int .u8 0, .int .u8 0, .int .u16 fl, .int .u32 hd, .int .u32 K, .slice sq K K] 65)) :
    ∃ own6, Aside (Sf A w0 cb p z ob op d wv wrote bo bore own6 W6) ∧ Aside (Rd W6 (.slice sq K K) xs) ∧ W6.cell? ⟨W.heap.size, 2, none⟩ = some (.int .u16 fl) ∧ W6.cell? ⟨W.heap.size, 4, none⟩ = some (.int .u32 K) ∧ W6.cell? ⟨W.heap.size, 5, none⟩ = some (.slice sq K K) ∧ Aside (CellsO own6 12 W6 W.heap.size 65 [.int .u8 0, .int .u8 0, .int .u16 fl, .int .u32 hd, .int .u32 K, .slice sq K K]) := by
  have k : Keeps Nowhere W W6 := by rw [hW]; exact (Keeps.refl _ _).alloc _
  have C : Cells W6 W.heap.size 65 [.int .u8 0, .int .u8 0, .int .u16 fl, .int .u32 hd, .int .u32 K, .slice sq K K] := by rw [hW]; exact Cells.new W _ _
  exact ⟨_, Sf.fresh h k 12, ⟨rowO_rd (R.quiet k)⟩, C.cell 2, C.cell 4, C.cell 5, ⟨C, give_new (Nat.le_refl _)⟩⟩
theorem Sf.wApp {v' : Value} {ms : List Int} (h : Aside (Sf A w0 cb p z ob op d wv wrote bo bore own W)) (o1 : Aside (W'.ownsRow 0 5 1 v' ms.length (bv ms))) (k1 : Aside (Keeps (fun b => wv.ownBlock = some b) W W')) (b1 : Aside (∀ b, v'.ownBlock = some b → wv.ownBlock = some b ∨ W.heap.size ≤ b)) :
    ∃ own', Aside (Sf A w0 cb p z ob op d v' ms bo bore own' W') := by
  obtain ⟨a, s⟩ := h.it.wr.app o1.it k1.it b1.it
  exact ⟨_, ⟨h.it.st.sn s (fun k _ b => by omega), h.it.g.sn s (by omega), h.it.cf.sn s (by omega), h.it.op.imp id (fun x => x.sn s (by omega)), a, h.it.bo.sn s (by omega)⟩⟩
theorem Sf.bApp {v' : Value} {ms : List Int} (h : Aside (Sf A w0 cb p z ob op d wv wrote bo bore own W)) (o1 : Aside (W'.ownsRow 0 5 1 v' ms.length (bv ms))) (k1 : Aside (Keeps (fun b => bo.ownBlock = some b) W W')) (b1 : Aside (∀ b, v'.ownBlock = some b → bo.ownBlock = some b ∨ W.heap.size ≤ b)) :
    ∃ own', Aside (Sf A w0 cb p z ob op d wv wrote v' ms own' W') := by
  obtain ⟨a, s⟩ := h.it.bo.app o1.it k1.it b1.it
  exact ⟨_, ⟨h.it.st.sn s (fun k _ b => by omega), h.it.g.sn s (by omega), h.it.cf.sn s (by omega), h.it.op.imp id (fun x => x.sn s (by omega)), h.it.wr.sn s (by omega), a⟩⟩
/-- a new op's box -/
theorem Sf.box (h : Aside (Sf A w0 cb p z ob op d wv wrote bo bore own W)) (op' : List Value) : Aside (Sf A w0 cb p z W.heap.size op' d wv wrote bo bore (give own W.heap.size 12) (W.alloc (.cells op'.toArray 56))) := by
  have k : Keeps Nowhere W (W.alloc (.cells op'.toArray 56)) := (Keeps.refl _ _).alloc _
  have s : Sn (fun _ => False) own W (give own W.heap.size 12) (W.alloc (.cells op'.toArray 56)) := Sn.quiet k 12
  exact ⟨h.it.st.sn s (fun _ _ _ x => x), h.it.g.sn s (fun x => x), h.it.cf.sn s (fun x => x), .inr ⟨Cells.new W _ _, give_new (Nat.le_refl _)⟩, h.it.wr.sn s (fun x => x), h.it.bo.sn s (fun x => x)⟩
theorem Sf.opc {c : Value} {cs : List Value} (h : Aside (Sf A w0 cb p z ob (c :: cs) d wv wrote bo bore own W)) (j : Nat) (v : Value) (hj : (c :: cs)[j]? = some v) : W.cell? ⟨ob, j, none⟩ = some v := by
  rcases h.it.op with e | e
  · cases e
  · rw [← hj]; exact e.1.cell j
theorem Sf.cfg (h : Aside (Sf A w0 cb p z ob op d wv wrote bo bore own W)) : W.cell? ⟨cb, 0, none⟩ = some (.int .i64 z.win) ∧ W.cell? ⟨cb, 2, none⟩ = some (.int .i64 z.frame) := ⟨h.it.cf.1.cell 0, h.it.cf.1.cell 2⟩
/-- what holds of the model -/
structure If (z : Cf) (k : Nat) (d : Dm) (wrote bore : List Int) : Prop where
  eq : wrote = bore ++ d.staged
  dr : d.drop = false
  cu : d.cut = false
  mi : d.mine = true
  wi : (d.win : Int) = z.win
  fr : d.frame = z.frame
  sg : d.stage ≤ 1048576
  len : wrote.length ≤ k * 1048576
theorem If.up {k k' : Nat} (h : If z k d wrote bore) (hk : k ≤ k') : If z k' d wrote bore := { h with len := Nat.le_trans h.len (Nat.mul_le_mul_right _ hk) }
theorem wrN_le (d : Dm) (xs : List Int) : d.wrN xs ≤ xs.length ∧ d.wrN xs ≤ d.stage := by
  unfold Dm.wrN
  split <;> omega
theorem If.write {k : Nat} (h : If z k d wrote bore) (xs : List Int) : If z (k + 1) (d.wrD xs) (wrote ++ xs.take (d.wrN xs)) bore := by
  have l := (wrN_le d xs).2
  have sg := h.sg
  have hl := h.len
  have hlen : (wrote ++ xs.take (d.wrN xs)).length ≤ (k + 1) * 1048576 := by
    rw [List.length_append, List.length_take, Nat.add_mul]
    omega
  have e := h.eq
  revert hlen
  unfold Dm.wrD Dm.wrN
  split
  · intro hlen
    simp only [List.take_zero, List.append_nil] at hlen ⊢
    exact { h with len := hlen }
  · intro hlen
    refine ⟨?_, h.dr, h.cu, h.mi, h.wi, h.fr, h.sg, hlen⟩
    show _ = bore ++ (d.staged ++ xs.take (d.stage - d.staged.length))
    rw [e, List.append_assoc]
    congr 2
    rcases Nat.le_total xs.length (d.stage - d.staged.length) with x | x
    · rw [Nat.min_eq_left x, List.take_length, List.take_of_length_le x]
    · rw [Nat.min_eq_right x]
theorem If.close {k : Nat} (h : If z k d wrote bore) : If z k d.clD wrote bore := by
  unfold Dm.clD
  split
  · exact h
  · exact ⟨h.eq, h.dr, h.cu, h.mi, h.wi, h.fr, h.sg, h.len⟩
theorem close_closing (h : If z 0 d wrote bore ∨ d.drop = false ∧ d.cut = false) : d.clD.closing = true := by
  have : d.drop = false ∧ d.cut = false := by
    rcases h with h | h
    · exact ⟨h.dr, h.cu⟩
    · exact h
  unfold Dm.clD
  rw [this.1, this.2]
  cases e : d.closing
  · rfl
  · simp [e]
theorem If.grant {k : Nat} (h : If z k d wrote bore) (n : Int) : If z k (d.grD n false) wrote bore ∧ (d.grD n false).credit = (if d.grE n = 0 ∧ d.last = false then d.credit + n else d.credit) ∧ (d.grD n false).closing = d.closing ∧ (d.grD n false).last = d.last := by
  have a := h.dr
  have b := h.cu
  unfold Dm.grD
  rw [if_neg (by rw [a, b]; decide)]
  by_cases e : d.grE n = 17
  · rw [if_pos e, if_neg (by rw [e]; omega)]
    exact ⟨h, rfl, rfl, rfl⟩
  · rw [if_neg e, if_neg (by simp)]
    refine ⟨⟨h.eq, h.dr, h.cu, h.mi, h.wi, h.fr, h.sg, h.len⟩, ?_, rfl, rfl⟩
    show d.grC n = _
    have e0 : d.grE n = 0 := by
      revert e
      unfold Dm.grE
      repeat' split
      all_goals simp
    unfold Dm.grC Dm.off
    rw [a, b]
    cases hl : d.last
    · simp [e0]
    · simp
theorem If.frame {k : Nat} (h : If z k d wrote bore) (hr : d.ready = true) : If z k d.frD wrote (bore ++ d.staged.take d.frK) ∧ d.frD.credit = d.credit - d.frK ∧ d.frD.closing = d.closing ∧ d.frD.last = d.frL := by
  unfold Dm.frD
  rw [if_pos hr]
  refine ⟨⟨?_, h.dr, h.cu, h.mi, h.wi, h.fr, h.sg, h.len⟩, rfl, rfl, rfl⟩
  show wrote = (bore ++ d.staged.take d.frK) ++ d.staged.drop d.frK
  rw [List.append_assoc, List.take_append_drop]
  exact h.eq
theorem frK_zero (ok : d.Ok) (hr : d.ready = true) (h0 : d.frK = 0) : d.frL = true := by
  have f1 := ok.frame1
  have hr' := hr
  unfold Dm.ready at hr'
  simp only [Bool.and_eq_true] at hr'
  have h2 := hr'.2
  unfold Dm.frL
  by_cases e : d.staged = []
  · rw [if_pos e] at h2
    rw [h2, e]
    simp
  · rw [if_neg e] at h2
    have hc : 0 < d.credit := by simpa using h2
    have hl : 0 < d.staged.length := by
      rcases Nat.eq_zero_or_pos d.staged.length with x | x
      · exact absurd (List.length_eq_zero_iff.1 x) e
      · exact x
    unfold Dm.frK at h0
    omega
theorem ready_last (hr : d.ready = true) : d.last = false := by
  unfold Dm.ready Dm.off at hr
  revert hr
  cases d.last <;> simp
end
end Go.Proofs.YteghehhifebhcaaDoor
