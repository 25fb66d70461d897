/-
  package pipe: letGoOfFirst
-/
import Derived.Test.YtpmmjekaefemeaaDoorPpE
import Derived.BigRegion
namespace Go.Proofs.YtpmmjekaefemeaaDoor
open Go.RowKit

section
variable {own own' own1 : Nat → Nat} {w w' w1 W : World} {rs rs1 : List (List Int)} {r r0 r1 L b : List Int} {I : Nat → Prop} {i d p qp gone ps : Nat} {q q1 : List El19} {bg : Value} {cut : Bool}

theorem put19 (h : PpO own i w p L ps false) {v : Value} (hr : Rd w v b) (hL : L.length + b.length ≤ 2199023255551) :
    Calls Tryd.prog 11 #[ptr p, v] w fun e w' => ∃ own', e = .returned (.tuple #[.int .i64 b.length, .nilIface]) ∧ Aside (PpO own' i w' p (L ++ b) ps false ∧ Sn (fun k => k = i) own w own' w') := by
  obtain ⟨a, c, rfl⟩ := hr.shape
  by_cases hn : b = []
  · subst hn
    refine (put_none19 h a c).mono ?_
    rintro e w' ⟨rfl, k⟩
    exact ⟨own, rfl, ⟨by rw [List.append_nil]; exact h.quiet k.it, Sn.same k.it⟩⟩
  · rcases h with ⟨h, _⟩ | ⟨_, h⟩
    · cases h
    · refine (put_some19 h hr hn rfl hL).mono ?_
      rintro e w' ⟨own', rfl, X⟩
      exact ⟨own', rfl, ⟨.inr ⟨rfl, X.it.1⟩, X.it.2⟩⟩

/-- the first piece is begun -/
structure Lg (own : Nat → Nat) (w : World) (i p qp : Nat) (L : List Int) (ps : Nat) (own1 : Nat → Nat) (w1 : World) (q1 : List El19) (bg : Value) (r1 : List Int) (rs1 : List (List Int)) (gone : Nat) : Prop where
  x : PpI own1 i w1 p qp q1 bg r1 rs1 gone ps
  n : r1 ≠ []
  e : L = r1 ++ rs1.flatten
  s : Sn (fun j => j = i ∨ j = i + 1) own w own1 w1
/-- the next piece was taken out of the queue -/
theorem Lg.got {x : El19} {w2 : World} (h : PpI own i w p qp (x :: q) bg [] (r :: rs) gone ps) (hf : Fbs.FifoO (give own w.heap.size i) i w2 qp maxI maxI q) (hk : Keeps (fun k => own k = i) w w2) :
    (Lg own w i p qp (r ++ rs.flatten) ps (give own w.heap.size i) (w2.setCell ⟨p, 0, none⟩ (pv x.1)) q (pv x.1) r rs gone) ∧ w2.cell? ⟨p, 0, none⟩ = some bg ∧ w2.frozen? ⟨p, 0, none⟩ = false := by
  have s1 : Sn (fun k => k = i) own w (give own w.heap.size i) w2 := Sn.by hk i
  have b1 := h.box.sn s1 (by omega)
  have p1 := h.pcs.sn s1 (by omega)
  have s2 : Sn (fun k => k = i + 1) (give own w.heap.size i) w2 (give own w.heap.size i) (w2.setCell ⟨p, 0, none⟩ (pv x.1)) := ⟨fun _ _ => rfl, (Keeps.refl _ _).setCell _ _ (fun _ => b1.2)⟩
  have p2 := p1.sn s2 (by omega)
  have hg : gone = 0 := by have := h.gl; simpa using this
  refine ⟨⟨⟨⟨b1.1.setCell 0 (pv x.1), b1.2⟩, Fbs.FifoO_sn hf s2 (by omega), p2.1.2.2, p2.2, by rw [hg]; exact Nat.zero_le _, h.p64⟩, p1.1.2.1, rfl, (s1.mono (fun _ e => .inl e)).trans (s2.mono (fun _ e => .inr e))⟩, by rw [b1.1.cell]; rfl, b1.1.frozen 0⟩
theorem box01 {x0 x1 v' : Value} {n : Nat} (h : CellsO own (i + 1) w p 60 [x0, x1, ptr qp, .int .u64 ps, .bool false]) :
    CellsO own (i + 1) ((w.setCell ⟨p, 0, none⟩ v').setCell ⟨p, 1, none⟩ (.int .i64 n)) p 60 [v', .int .i64 n, ptr qp, .int .u64 ps, .bool false] ∧ Sn (fun k => k = i + 1) own w own ((w.setCell ⟨p, 0, none⟩ v').setCell ⟨p, 1, none⟩ (.int .i64 n)) :=
  ⟨⟨(h.1.setCell 0 v').setCell 1 (.int .i64 n), h.2⟩, ⟨fun _ _ => rfl, ((Keeps.refl _ _).setCell _ _ (fun _ => h.2)).setCell _ _ (fun _ => h.2)⟩⟩
theorem Rd.take {v : Option Addr} {R c k : Nat} (h : Rd w (.slice v R c) r) (hk : k ≤ r.length) : Rd w (.slice v k c) (r.take k) := by
  refine ⟨?_, fun l' c' e => ?_⟩
  · rw [bv_take]
    exact h.1.slice k (by rw [bv_length]; exact hk)
  · injection e with e1 e2 e3
    exact e3 ▸ h.2 _ _ (by rw [e1])
theorem Rd.drop {g o R c k : Nat} (h : Rd w (.slice (some ⟨g, o, none⟩) R c) r) (hk : k ≤ r.length) : Rd w (.slice (some (if c = k then ⟨g, o, none⟩ else ⟨g, o + k, none⟩)) (R - k) (c - k)) (r.drop k) := by
  have := RdS.drop (S := Nowhere) (n := k) h hk
  by_cases e : c = k
  · rw [if_pos e] at this ⊢; exact this
  · rw [if_neg e, Option.map_some, add_none] at this; rw [if_neg e]; exact this
/-- k bytes of the begun piece are let go -/
structure Tk (own : Nat → Nat) (w : World) (i p qp : Nat) (L : List Int) (ps k : Nat) (own2 : Nat → Nat) (w2 : World) (q1 : List El19) (v x : Value) (n : Nat) (r2 : List Int) (rs1 : List (List Int)) : Prop where
  box : CellsO own2 (i + 1) w2 p 60 [v, .int .i64 n, ptr qp, .int .u64 ps, .bool false]
  fifo : Fbs.FifoO own2 i w2 qp maxI maxI q1
  bg : RdO own2 (i + 2) w2 v r2
  pcs : Pcs own2 (i + 2) w2 q1 rs1
  p64 : ps < 18446744073709551616
  out : RdO own2 (i + 2) w2 x (L.take k)
  e : L.drop k = r2 ++ rs1.flatten
  s : Sn (fun j => j = i ∨ j = i + 1) own w own2 w2
theorem Lg.took {k g o R c n : Nat} {a : Addr} (h : Lg own w i p qp L ps own1 w1 q1 (.slice (some ⟨g, o, none⟩) R c) r1 rs1 gone) (hR : r1.length = R) (hk : k ≤ R) (ha : a = if c = k then ⟨g, o, none⟩ else ⟨g, o + k, none⟩) :
    Tk own w i p qp L ps k own1 ((w1.setCell ⟨p, 0, none⟩ (.slice (some a) (R - k) (c - k))).setCell ⟨p, 1, none⟩ (.int .i64 n)) q1 (.slice (some a) (R - k) (c - k)) (.slice (some ⟨g, o, none⟩) k c) n (r1.drop k) rs1 := by
  obtain ⟨b2, s2⟩ := box01 (v' := .slice (some a) (R - k) (c - k)) (n := n) h.x.box
  have hr := h.x.bg.sn s2 (by omega)
  have hg := hr.2 g rfl
  subst ha
  refine ⟨b2, Fbs.FifoO_sn h.x.fifo s2 (by omega), ⟨hr.1.drop (by omega), fun g' e => ?_⟩, h.x.pcs.sn s2 (by omega), h.x.p64, ⟨?_, fun g' e => ?_⟩, ?_, h.s.trans (s2.mono (fun _ e => .inr e))⟩
  · have : g = g' := by split at e <;> (simp only [Value.ownBlock, Option.some.injEq] at e; exact e)
    rw [← this]; exact hg
  · rw [h.e, List.take_append_of_le_length (by omega)]
    exact hr.1.take (by omega)
  · have : g = g' := by simp only [Value.ownBlock, Option.some.injEq] at e; exact e
    rw [← this]; exact hg
  · rw [h.e, List.drop_append_of_le_length (by omega)]
theorem Tk.fin {k n : Nat} {own2 : Nat → Nat} {w2 : World} {v x : Value} {r2 : List Int} (h : Tk own w i p qp L ps k own2 w2 q1 v x n r2 rs1) (hn : n ≤ r2.length) : PpL own2 i w2 p (L.drop k) ps :=
  ⟨qp, q1, v, r2, rs1, n, ⟨h.box, h.fifo, h.bg, h.pcs, hn, h.p64⟩, h.e⟩
theorem Tk.quiet {k n : Nat} {own2 : Nat → Nat} {w2 : World} {v x : Value} {r2 : List Int} (h : Tk own w i p qp L ps k own2 w2 q1 v x n r2 rs1) (hk : Keeps Nowhere w2 w') : Tk own w i p qp L ps k own2 w' q1 v x n r2 rs1 := by
  have s2 : Sn (fun _ => False) own2 w2 own2 w' := Sn.same hk
  exact ⟨h.box.sn s2 (fun x => x), Fbs.FifoO_sn h.fifo s2 (fun x => x), h.bg.sn s2 (fun x => x), h.pcs.sn s2 (fun x => x), h.p64, h.out.sn s2 (fun x => x), h.e, h.s.trans (s2.mono (fun _ x => x.elim))⟩
/-- what is left is copied -/
theorem Tk.copy {k n : Nat} {own2 : Nat → Nat} {w2 w3 : World} {v v' x : Value} {r2 : List Int} (h : Tk own w i p qp L ps k own2 w2 q1 v x n r2 rs1) (X : Nw w2 w3 v' r2) :
    Tk own w i p qp L ps k (give own2 w2.heap.size (i + 2)) ((w3.setCell ⟨p, 0, none⟩ v').setCell ⟨p, 1, none⟩ (.int .i64 (0 : Nat))) q1 v' x 0 r2 rs1 := by
  have s2 : Sn (fun _ => False) own2 w2 (give own2 w2.heap.size (i + 2)) w3 := Sn.quiet X.k (i + 2)
  obtain ⟨b3, s3⟩ := box01 (v' := v') (n := 0) (h.box.sn s2 (fun x => x))
  exact ⟨b3, Fbs.FifoO_sn (Fbs.FifoO_sn h.fifo s2 (fun x => x)) s3 (by omega), (X.rowB own2 (i + 2)).rdO.sn s3 (by omega), (h.pcs.sn s2 (fun x => x)).sn s3 (by omega), h.p64, (h.out.sn s2 (fun x => x)).sn s3 (by omega), h.e, (h.s.trans (s2.mono (fun _ x => x.elim))).trans (s3.mono (fun _ e => .inr e))⟩
theorem Tk.cells {k n : Nat} {own2 : Nat → Nat} {w2 : World} {v x : Value} {r2 : List Int} (h : Tk own w i p qp L ps k own2 w2 q1 v x n r2 rs1) : w2.cell? ⟨p, 0, none⟩ = some v ∧ w2.cell? ⟨p, 1, none⟩ = some (.int .i64 n) ∧ w2.frozen? ⟨p, 0, none⟩ = false ∧ w2.frozen? ⟨p, 1, none⟩ = false :=
  ⟨by rw [h.box.1.cell]; rfl, by rw [h.box.1.cell]; rfl, h.box.1.frozen 0, h.box.1.frozen 1⟩
end
end Go.Proofs.YtpmmjekaefemeaaDoor
