/-
  culvertlaw02.Op: a script of them, with what the reach says of its slices
-/
import Derived.Test.YtkmijhfimkcoiaaDoorRingOps
import Derived.Test.YtkmijhfimkcoiaaDoorBase
import Derived.SizedLaws
namespace Go.Proofs.YtkmijhfimkcoiaaDoor
open Go.ChangeShapes Go.WideShapes Go.RowKit Go.Deep

def OpsAt2 (w : World) (v : Value) (ops : List OpV) : Prop :=
  ∃ a cap, v = .slice a ops.length cap ∧ ops.length ≤ cap ∧ cap ≤ maxLen ∧ ∀ i op, ops[i]? = some op → ∃ b o s, a = some ⟨b, o, none⟩ ∧ w.cell? ⟨b, o + i * 4, none⟩ = some (.int .i64 op.kind) ∧ w.cell? ⟨b, o + i * 4 + 1, none⟩ = some (.int .i64 op.at') ∧
    w.cell? ⟨b, o + i * 4 + 2, none⟩ = some (.int .i64 op.n) ∧ w.cell? ⟨b, o + i * 4 + 3, none⟩ = some s ∧ ReadsOff Nowhere w s (iv op.items) ∧ NilOk s ∧ op.items.length * 8 ≤ 140737488351232

theorem mem_weightsAll {H : Type} {P : Program} {e : TypeId} {d : DataW H} {n : Nat} : ∀ {l : List (DataW H)}, d ∈ l → n ∈ d.weights P e → n ∈ DataW.weightsAll P e l
  | [], h, _ => by cases h
  | x :: r, h, hn => by
    unfold DataW.weightsAll
    rcases List.mem_cons.1 h with rfl | h
    · exact List.mem_append.2 (.inl hn)
    · exact List.mem_append.2 (.inr (mem_weightsAll h hn))

theorem open_ints2 {H : Type} {enc : TypeId × Value → H} {P : Program} {w : World} {base : Nat} {spare : Nat → Bool} {held : Bool} {t e : TypeId} {k : IntKind} {fuel : Nat} {v : Value} {x : DataW H × List MemPlace} (ht : P.underlying t = some (.slice e)) (he : P.underlying e = some (.int k)) (hc : P.cellsOf e = 1) (hby : P.bytesOf e = 8)
    (h : DataW.trod enc P w base spare held fuel t [v] = some x) (hw : ∀ n ∈ x.1.weights P t, n ≤ 140737488351232) : ∃ ns : List Int, ReadsOff Nowhere w v (ns.map (Value.int k)) ∧ NilOk v ∧ ns.length * 8 ≤ 140737488351232 := by
  obtain ⟨ns, hr, _, _⟩ := open_ints1 ht he hc h
  refine ⟨ns, hr, ?_, ?_⟩
  · rcases open_ints ht he hc h with ⟨hcs, _⟩ | ⟨a, len, cap, zs, hcs, _⟩
    · obtain rfl : v = .slice none 0 0 := by simpa using hcs
      exact fun _ _ e => by injection e with _ _ e; exact e.symm
    · obtain rfl : v = .slice (some a) len cap := by simpa using hcs
      exact fun _ _ e => by injection e with e; cases e
  · rcases open_ints ht he hc h with ⟨hcs, _⟩ | ⟨a, len, cap, zs, hcs, _, hl, hm, hz, hx, _⟩
    · obtain rfl : v = .slice none 0 0 := by simpa using hcs
      obtain ⟨a, c, e, _, _⟩ := hr
      injection e with _ e _
      rw [List.length_map] at e
      omega
    · obtain rfl : v = .slice (some a) len cap := by simpa using hcs
      obtain ⟨a', c', e, _, _⟩ := hr
      injection e with _ e _
      rw [List.length_map] at e
      have := hw ((lits k (zs.take len)).length * 8 + (lits k (zs.drop len)).length * 8 : Nat) (by
        rw [hx]
        simp only [DataW.weights, ht, hby]
        rw [← Nat.add_mul]
        exact List.mem_cons_self ..)
      simp only [lits, List.length_map, List.length_take, List.length_drop] at this
      have hlz : len ≤ zs.length := by rw [hz]; split <;> omega
      omega

theorem ops_open2 {H : Type} {enc : TypeId × Value → H} {w : World} {base : Nat} {spare : Nat → Bool} {held : Bool} {fuel : Nat} {v : Value} {x : DataW H × List MemPlace}
    (h : DataW.trod enc Tryd.prog w base spare held fuel 22 [v] = some x) (hw : ∀ n ∈ x.1.weights Tryd.prog 22, n ≤ 140737488351232) : ∃ ops, OpsAt2 w v ops := by
  rcases open_slice Tryd.underlying22 h with ⟨hv, _⟩ | ⟨a, len, cap, m, n, D, Pl, hv, hb, hl, hm, hmm, rfl, hx⟩
  · obtain rfl : v = .slice none 0 0 := by simpa using hv
    exact ⟨[], none, 0, rfl, Nat.le_refl _, Nat.zero_le _, fun i op hi => by simp at hi⟩
  · obtain rfl : v = .slice (some a) len cap := by simpa using hv
    have hlm : len ≤ m := by subst hmm; split <;> omega
    have hfive : Tryd.prog.cellsOf 29 = 4 := by kernel_rfl
    have hop : ∀ i, ∃ op : OpV, i < len → ∃ b o s, (some a : Option Addr) = some ⟨b, o, none⟩ ∧ w.cell? ⟨b, o + i * 4, none⟩ = some (.int .i64 op.kind) ∧ w.cell? ⟨b, o + i * 4 + 1, none⟩ = some (.int .i64 op.at') ∧
        w.cell? ⟨b, o + i * 4 + 2, none⟩ = some (.int .i64 op.n) ∧ w.cell? ⟨b, o + i * 4 + 3, none⟩ = some s ∧ ReadsOff Nowhere w s (iv op.items) ∧ NilOk s ∧ op.items.length * 8 ≤ 140737488351232 := by
      intro i
      by_cases hi : i < len
      · obtain ⟨cs', hcs, ht'⟩ := hx i (by omega)
        obtain ⟨_, hlen, hcell⟩ := World.cells?_some hcs
        rw [hfive] at hlen hcell
        obtain ⟨xs, n', _, hDx, _, hxl, hfl⟩ := DataW.trod_struct Tryd.underlying29 ht'
        have hxl4 : xs.length = 4 := hxl
        have ci : Tryd.prog.cellsOf 3 = 1 := by kernel_rfl
        have cs : Tryd.prog.cellsOf 27 = 1 := by kernel_rfl
        have t0 : DataW.trod enc Tryd.prog w base spare held n' 3 ((cs'.drop 0).take (Tryd.prog.cellsOf 3)) = xs[0]? := hfl 0 _ rfl
        have t1 : DataW.trod enc Tryd.prog w base spare held n' 3 ((cs'.drop 1).take (Tryd.prog.cellsOf 3)) = xs[1]? := hfl 1 _ rfl
        have t2 : DataW.trod enc Tryd.prog w base spare held n' 3 ((cs'.drop 2).take (Tryd.prog.cellsOf 3)) = xs[2]? := hfl 2 _ rfl
        have t3 : DataW.trod enc Tryd.prog w base spare held n' 27 ((cs'.drop 3).take (Tryd.prog.cellsOf 27)) = xs[3]? := hfl 3 _ rfl
        rw [ci, take1_drop cs' _ undef (by omega), List.getElem?_eq_getElem (by omega)] at t0 t1 t2
        rw [cs, take1_drop cs' _ undef (by omega), List.getElem?_eq_getElem (by omega)] at t3
        obtain ⟨z0, v0, _⟩ := open_int1 Tryd.underlying3 t0
        obtain ⟨z1, v1, _⟩ := open_int1 Tryd.underlying3 t1
        obtain ⟨z2, v2, _⟩ := open_int1 Tryd.underlying3 t2
        obtain ⟨ns, hr, hn, hsz⟩ := open_ints2 Tryd.underlying27 Tryd.underlying3 ci (by kernel_rfl) t3 (fun k hk => by
          apply hw
          simp only [DataW.weights, Tryd.underlying22]
          refine List.mem_cons_of_mem _ (List.mem_append.2 (.inl ?_))
          refine mem_weightsAll (d := D i) (List.mem_map.2 ⟨i, List.mem_range.2 hi, rfl⟩) ?_
          have hD : D i = .agg (xs.map (·.1)) := congrArg Prod.fst hDx
          rw [hD]
          simp only [DataW.weights, Tryd.underlying29]
          exact DataW.weights_mem_each (j := 3) (t := 27) (d := (xs[3]).1) rfl (by simp [hxl4]) k hk)
        obtain ⟨b, o, sp⟩ := a
        have hc0 : ∀ j, j < 4 → w.cell? ((⟨b, o, sp⟩ : Addr).add (i * 4 + j)) = some (cs'.getD j undef) := by
          intro j hj
          have := hcell j hj
          rw [add_add] at this
          rw [this, List.getElem?_eq_getElem (by omega)]
          simp [List.getD, List.getElem?_eq_getElem (show j < cs'.length by omega)]
        obtain rfl : sp = none := by
          obtain ⟨cs0, hcs0, _⟩ := hx 0 (by omega)
          obtain ⟨_, hlen0, hcell0⟩ := World.cells?_some hcs0
          have h00 := hcell0 0 (by rw [hfive]; decide)
          rw [List.getElem?_eq_getElem (by rw [hlen0, hfive]; decide), add_add, Nat.zero_mul] at h00
          simpa [Addr.add] using World.cell?_spot h00
        have e0 := hc0 0 (by decide)
        have e1 := hc0 1 (by decide)
        have e2 := hc0 2 (by decide)
        have e3 := hc0 3 (by decide)
        rw [add_plain] at e0 e1 e2 e3
        rw [v0] at e0; rw [v1] at e1; rw [v2] at e2
        exact ⟨⟨z0, z1, z2, ns⟩, fun _ => ⟨b, o, _, rfl, e0, e1, e2, e3, hr, hn, hsz⟩⟩
      · exact ⟨⟨0, 0, 0, []⟩, fun h => absurd h hi⟩
    refine ⟨(List.range len).map fun i => Classical.choose (hop i), some a, cap, by simp, by simpa using hl, hm, fun i op hi => ?_⟩
    simp only [List.getElem?_map, Option.map_eq_some_iff] at hi
    obtain ⟨j, hj, rfl⟩ := hi
    obtain ⟨hj1, hj2⟩ := List.getElem?_eq_some_iff.1 hj
    simp only [List.getElem_range] at hj2
    subst hj2
    exact Classical.choose_spec (hop i) (by simpa using hj1)
end Go.Proofs.YtkmijhfimkcoiaaDoor
