/-
  culvertlaw02.Op: a script of them, as it is read
-/
import Derived.Test.YtkmijhfimkcoiaaDoorProg
import Derived.Test.YtkmijhfimkcoiaaDoorOpen
import Derived.Test.YtkmijhfimkcoiaaDoorSameInts
namespace Go.Proofs.YtkmijhfimkcoiaaDoor
open Go.ChangeShapes Go.WideShapes Go.RowKit Go.Deep

structure OpV where
  kind : Int
  at' : Int
  n : Int
  items : List Int

def OpsAt (w : World) (v : Value) (ops : List OpV) : Prop :=
  ∃ a cap, v = .slice a ops.length cap ∧ ops.length ≤ cap ∧ cap ≤ maxLen ∧ ∀ i op, ops[i]? = some op → ∃ b o s, a = some ⟨b, o, none⟩ ∧ w.cell? ⟨b, o + i * 4, none⟩ = some (.int .i64 op.kind) ∧ w.cell? ⟨b, o + i * 4 + 1, none⟩ = some (.int .i64 op.at') ∧
    w.cell? ⟨b, o + i * 4 + 2, none⟩ = some (.int .i64 op.n) ∧ w.cell? ⟨b, o + i * 4 + 3, none⟩ = some s ∧ ReadsOff Nowhere w s (iv op.items) ∧ op.items.length ≤ maxLen ∧ (Lit.int .i64 op.at').wf = true

theorem OpsAt.later {w w' : World} {v : Value} {ops : List OpV} (h : OpsAt w v ops) (hb : Below w.heap.size w w') : OpsAt w' v ops := by
  obtain ⟨a, cap, rfl, hl, hm, hc⟩ := h
  refine ⟨a, cap, rfl, hl, hm, fun i op hi => ?_⟩
  obtain ⟨b, o, s, hx, c0, c1, c2, c3, hr, hn, hw⟩ := hc i op hi
  refine ⟨b, o, s, hx, ?_, ?_, ?_, ?_, hr.below hb, hn, hw⟩
  · rw [hb.cell (World.block_lt_of_cell? w _ c0)]; exact c0
  · rw [hb.cell (World.block_lt_of_cell? w _ c1)]; exact c1
  · rw [hb.cell (World.block_lt_of_cell? w _ c2)]; exact c2
  · rw [hb.cell (World.block_lt_of_cell? w _ c3)]; exact c3

theorem ops_open {H : Type} {enc : TypeId × Value → H} {w : World} {base : Nat} {spare : Nat → Bool} {held : Bool} {fuel : Nat} {v : Value} {x : DataW H × List MemPlace}
    (h : DataW.trod enc Tryd.prog w base spare held fuel 22 [v] = some x) : ∃ ops, OpsAt w v ops := by
  obtain ⟨a, len, cap, hv, hl, hm, V, hV⟩ := open_rows Tryd.underlying22 Tryd.underlying29 (hone_of (by kernel_rfl)) (by kernel_rfl) h
  obtain rfl : v = .slice a len cap := by simpa using hv
  have hop : ∀ i, ∃ op : OpV, i < len → ∃ b o s, a = some ⟨b, o, none⟩ ∧ w.cell? ⟨b, o + i * 4, none⟩ = some (.int .i64 op.kind) ∧ w.cell? ⟨b, o + i * 4 + 1, none⟩ = some (.int .i64 op.at') ∧
      w.cell? ⟨b, o + i * 4 + 2, none⟩ = some (.int .i64 op.n) ∧ w.cell? ⟨b, o + i * 4 + 3, none⟩ = some s ∧ ReadsOff Nowhere w s (iv op.items) ∧ op.items.length ≤ maxLen ∧ (Lit.int .i64 op.at').wf = true := by
    intro i
    by_cases hi : i < len
    · obtain ⟨⟨x, rfl, c0⟩, n0, y0, t0⟩ := hV i hi 0 _ rfl
      obtain ⟨⟨x1, e1, c1⟩, n1, y1, t1⟩ := hV i hi 1 _ rfl
      obtain ⟨⟨x2, e2, c2⟩, n2, y2, t2⟩ := hV i hi 2 _ rfl
      obtain ⟨⟨x3, e3, c3⟩, n3, y3, t3⟩ := hV i hi 3 _ rfl
      cases e1; cases e2; cases e3
      obtain ⟨⟨x4, e4, c4⟩, _⟩ := hV 0 (by omega) 0 _ rfl
      cases e4
      obtain ⟨b, o, sp⟩ := x
      obtain rfl : sp = none := by simpa [Addr.add] using World.cell?_spot c4
      obtain ⟨z0, v0, _⟩ := open_int1 Tryd.underlying3 t0
      obtain ⟨z1, v1, w1⟩ := open_int1 Tryd.underlying3 t1
      obtain ⟨z2, v2, _⟩ := open_int1 Tryd.underlying3 t2
      obtain ⟨ns, hr, hn, _⟩ := open_ints1 Tryd.underlying27 Tryd.underlying3 (by kernel_rfl) t3
      rw [v0] at c0; rw [v1] at c1; rw [v2] at c2
      rw [add_plain] at c0 c1 c2 c3
      exact ⟨⟨z0, z1, z2, ns⟩, fun _ => ⟨b, o, V i 3, rfl, c0, c1, c2, c3, hr, hn, w1⟩⟩
    · exact ⟨⟨0, 0, 0, []⟩, fun h => absurd h hi⟩
  refine ⟨(List.range len).map fun i => Classical.choose (hop i), a, cap, by simp, by simpa using hl, hm, fun i op hi => ?_⟩
  simp only [List.getElem?_map, Option.map_eq_some_iff] at hi
  obtain ⟨j, hj, rfl⟩ := hi
  obtain ⟨hj1, hj2⟩ := List.getElem?_eq_some_iff.1 hj
  simp only [List.getElem_range] at hj2
  subst hj2
  exact Classical.choose_spec (hop i) (by simpa using hj1)
end Go.Proofs.YtkmijhfimkcoiaaDoor
