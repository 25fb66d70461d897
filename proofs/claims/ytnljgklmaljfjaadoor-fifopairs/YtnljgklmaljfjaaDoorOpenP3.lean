/-
  A script of law 03's Ops, its numbers in their bounds
-/
import Derived.Test.YtnljgklmaljfjaaDoorFifoOps
import Derived.Test.YtnljgklmaljfjaaDoorFStep1
import Derived.Test.YtnljgklmaljfjaaDoorFStep2
import Derived.Test.YtnljgklmaljfjaaDoorFStep3
import Derived.Test.YtnljgklmaljfjaaDoorFStep4
import Derived.Test.YtnljgklmaljfjaaDoorFStep5
import Derived.Test.YtnljgklmaljfjaaDoorOpen
import Derived.Lib.SmallJoins
import Derived.SizedLaws
namespace Go.Proofs.YtnljgklmaljfjaaDoor
open Go.ChangeShapes Go.WideShapes Go.RowKit Go.Deep Fint
def OpsAtP (w : World) (v : Value) (ops : List OpV3) : Prop :=
  (∃ a cap, v = .slice a ops.length cap ∧ ops.length ≤ cap ∧ cap ≤ maxLen ∧ ∀ i op, ops[i]? = some op → ∃ b o s, a = some ⟨b, o, none⟩ ∧ w.cell? ⟨b, o + i * 4, none⟩ = some (.int .i64 op.kind) ∧ w.cell? ⟨b, o + i * 4 + 1, none⟩ = some (.int .i64 op.v) ∧
    w.cell? ⟨b, o + i * 4 + 2, none⟩ = some (.int .i64 op.w) ∧ w.cell? ⟨b, o + i * 4 + 3, none⟩ = some s ∧ ReadsOff Nowhere w s (iv op.out) ∧ op.out.length ≤ maxLen ∧ (-9223372036854775808 ≤ op.v ∧ op.v ≤ 9223372036854775807)) ∧ ops.length ≤ 4398046511103

theorem ops_openP {H : Type} {enc : TypeId × Value → H} {w : World} {base : Nat} {spare : Nat → Bool} {held : Bool} {fuel : Nat} {v : Value} {x : DataW H × List MemPlace}
    (h : DataW.trod enc Tryd.prog w base spare held fuel 24 [v] = some x) (hw : ∀ n ∈ x.1.weights Tryd.prog 24, n ≤ 140737488351232) : ∃ ops, OpsAtP w v ops := by
  have hby : Tryd.prog.bytesOf 41 = 48 := by kernel_rfl
  obtain ⟨a, len, cap, hv, hl, hm, V, hV⟩ := open_rows Tryd.underlying24 Tryd.underlying41 (hone_of (by kernel_rfl)) (by kernel_rfl) h
  obtain rfl : v = .slice a len cap := by simpa using hv
  have hlen : len ≤ 4398046511103 := by
    rcases open_slice Tryd.underlying24 h with ⟨hv, _⟩ | ⟨a', len', cap', m, n, D, Pl, hv, hb, hl', hm', hmm, rfl, hx⟩
    · have e : (Value.slice a len cap) = .slice none 0 0 := by simpa using hv
      injection e with _ e _
      omega
    · have e : (Value.slice a len cap) = .slice (some a') len' cap' := by simpa using hv
      injection e with e1 e2 e3
      subst e1 e2 e3
      have hd : ∀ (xs ys : List (DataW H)), ((xs.length + ys.length) * 48) ∈ (DataW.slice xs ys).weights Tryd.prog 24 := by
        intro xs ys
        simp only [DataW.weights, Tryd.underlying24, hby]
        exact List.mem_cons_self ..
      have := hw _ (hd _ _)
      simp only [List.length_map, List.length_range] at this
      omega
  have hop : ∀ i, ∃ op : OpV3, i < len → ∃ b o s, a = some ⟨b, o, none⟩ ∧ w.cell? ⟨b, o + i * 4, none⟩ = some (.int .i64 op.kind) ∧ w.cell? ⟨b, o + i * 4 + 1, none⟩ = some (.int .i64 op.v) ∧
      w.cell? ⟨b, o + i * 4 + 2, none⟩ = some (.int .i64 op.w) ∧ w.cell? ⟨b, o + i * 4 + 3, none⟩ = some s ∧ ReadsOff Nowhere w s (iv op.out) ∧ op.out.length ≤ maxLen ∧ (-9223372036854775808 ≤ op.v ∧ op.v ≤ 9223372036854775807) := by
    intro i
    by_cases hi : i < len
    · obtain ⟨⟨x, rfl, c0⟩, n0, y0, t0⟩ := hV i hi 0 _ rfl
      obtain ⟨⟨x1, e1, c1⟩, n1, y1, t1⟩ := hV i hi 1 _ rfl
      obtain ⟨⟨x2, e2, c2⟩, n2, y2, t2⟩ := hV i hi 2 _ rfl
      obtain ⟨⟨x3, e3, c3⟩, n3, y3, t3⟩ := hV i hi 3 _ rfl
      cases e1; cases e2; cases e3
      obtain ⟨⟨x4, e4, c4⟩, _⟩ := hV 0 (by omega) 0 _ rfl
      cases e4
      obtain ⟨b, o, sp⟩ := x
      obtain rfl : sp = none := by simpa [Addr.add] using World.cell?_spot c4
      obtain ⟨z0, v0, _⟩ := open_int1 Tryd.underlying3 t0
      obtain ⟨z1, v1, bz⟩ := open_int1 Tryd.underlying3 t1
      obtain ⟨z2, v2, _⟩ := open_int1 Tryd.underlying3 t2
      obtain ⟨ns, hr, hn, _⟩ := open_ints1 Tryd.underlying39 Tryd.underlying3 (by kernel_rfl) t3
      rw [v0] at c0; rw [v1] at c1; rw [v2] at c2
      rw [add_none] at c0 c1 c2 c3
      exact ⟨⟨z0, z1, z2, ns⟩, fun _ => ⟨b, o, V i 3, rfl, c0, c1, c2, c3, hr, hn, by
        have h1 : IntKind.min .i64 = -9223372036854775808 := by decide
        have h2 : IntKind.max .i64 = 9223372036854775807 := by decide
        simpa [Lit.wf, h1, h2] using bz⟩⟩
    · exact ⟨⟨0, 0, 0, []⟩, fun h => absurd h hi⟩
  refine ⟨(List.range len).map fun i => Classical.choose (hop i), ⟨a, cap, by simp, by simpa using hl, hm, fun i op hi => ?_⟩, by simpa using hlen⟩
  simp only [List.getElem?_map, Option.map_eq_some_iff] at hi
  obtain ⟨j, hj, rfl⟩ := hi
  obtain ⟨hj1, hj2⟩ := List.getElem?_eq_some_iff.1 hj
  simp only [List.getElem_range] at hj2
  subst hj2
  exact Classical.choose_spec (hop i) (by simpa using hj1)
end Go.Proofs.YtnljgklmaljfjaaDoor
