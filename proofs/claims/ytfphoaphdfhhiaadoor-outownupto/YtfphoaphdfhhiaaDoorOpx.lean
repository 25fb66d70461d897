import Derived.Test.YtfphoaphdfhhiaaDoorBase
import Derived.OpenShut
import Derived.ChangeSlices
import Derived.Deep.Slices
import Derived.Deep.Fields
import Derived.Test.YtfphoaphdfhhiaaDoorRows
import Derived.Test.YtfphoaphdfhhiaaDoorOwnB
import Derived.SizedLaws
import Derived.Test.YtfphoaphdfhhiaaDoorFrameA
import Derived.Lib.SmallJoins
/-
  Arguments opened: slices of structs whose fields are one cell each. Of whatever program.
-/
namespace Go.Proofs.YtfphoaphdfhhiaaDoor
open Go.ChangeShapes Go.WideShapes Go.RowKit Go.Deep

section
variable {H : Type} {enc : TypeId × Value → H} {P : Program} {w : World} {base : Nat} {spare : Nat → Bool} {held : Bool}

theorem open_rows {t e : TypeId} {fs : Array Field} {fuel : Nat} {cs : List Value} {x : DataW H × List MemPlace} (ht : P.underlying t = some (.slice e)) (he : P.underlying e = some (.struct fs))
    (hone : ∀ (i : Nat) (f : Field), fs[i]? = some f → f.offset = i ∧ P.cellsOf f.type = 1) (hC : P.cellsOf e = fs.size) (h : DataW.trod enc P w base spare held fuel t cs = some x) :
    ∃ a len cap, cs = [.slice a len cap] ∧ len ≤ cap ∧ cap ≤ maxLen ∧ ∃ V : Nat → Nat → Value, ∀ i, i < len → ∀ (j : Nat) (f : Field), fs[j]? = some f →
      (∃ ad, a = some ad ∧ w.cell? (ad.add (i * fs.size + j)) = some (V i j)) ∧ ∃ n y, DataW.trod enc P w base spare held n f.type [V i j] = some y := by
  rcases open_slice ht h with ⟨rfl, _⟩ | ⟨a, len, cap, m, n, D, Pl, rfl, hb, hl, hm, hmm, rfl, hx⟩
  · exact ⟨none, 0, 0, rfl, Nat.le_refl _, Nat.zero_le _, fun _ _ => undef, fun i hi => absurd hi (by omega)⟩
  · have hlm : len ≤ m := by subst hmm; split <;> omega
    have hrow : ∀ i, ∃ cs' : List Value, i < len → (∀ (j : Nat) (f : Field), fs[j]? = some f → (w.cell? (a.add (i * fs.size + j)) = some (cs'.getD j undef)) ∧ ∃ n y, DataW.trod enc P w base spare held n f.type [cs'.getD j undef] = some y) := by
      intro i
      by_cases hi : i < len
      · obtain ⟨cs', hcs, ht'⟩ := hx i (by omega)
        refine ⟨cs', fun _ j f hf => ?_⟩
        obtain ⟨_, hlen, hcell⟩ := World.cells?_some hcs
        rw [hC] at hlen hcell
        obtain ⟨xs, n', _, _, _, hxl, hfl⟩ := DataW.trod_struct he ht'
        have hlt : j < fs.size := (Array.getElem?_eq_some_iff.1 hf).1
        obtain ⟨ho, hc1⟩ := hone j f hf
        have g := hfl j f hf
        rw [ho, hc1, take1_drop cs' j undef (by omega)] at g
        rw [List.getElem?_eq_getElem (by omega)] at g
        refine ⟨?_, n', _, g⟩
        have := hcell j hlt
        rw [add_add] at this
        rw [this, List.getElem?_eq_getElem (by omega)]
        simp [List.getD, List.getElem?_eq_getElem (show j < cs'.length by omega)]
      · exact ⟨[], fun h => absurd h hi⟩
    refine ⟨some a, len, cap, rfl, hl, hm, fun i j => (Classical.choose (hrow i)).getD j undef, fun i hi j f hf => ?_⟩
    obtain ⟨h1, h2⟩ := Classical.choose_spec (hrow i) hi j f hf
    exact ⟨⟨a, rfl, h1⟩, h2⟩

theorem open_int1 {t : TypeId} {k : IntKind} {fuel : Nat} {v : Value} {x : DataW H × List MemPlace} (ht : P.underlying t = some (.int k)) (h : DataW.trod enc P w base spare held fuel t [v] = some x) : ∃ n, v = .int k n ∧ (Lit.int k n).wf = true := by
  obtain ⟨n, hc, _, hw⟩ := DataW.trod_int ht h
  exact ⟨n, by simpa using hc, hw⟩
theorem open_ints1 {t e : TypeId} {k : IntKind} {fuel : Nat} {v : Value} {x : DataW H × List MemPlace} (ht : P.underlying t = some (.slice e)) (he : P.underlying e = some (.int k)) (hc : P.cellsOf e = 1)
    (h : DataW.trod enc P w base spare held fuel t [v] = some x) : ∃ ns : List Int, ReadsOff Nowhere w v (ns.map (Value.int k)) ∧ ns.length ≤ maxLen ∧ ∀ n ∈ ns, (Lit.int k n).wf = true := by
  rcases open_ints ht he hc h with ⟨hcs, _⟩ | ⟨a, len, cap, zs, hcs, _, hl, hm, hz, _, hcell, hwz⟩
  · obtain rfl : v = .slice none 0 0 := by simpa using hcs
    exact ⟨[], ⟨none, 0, rfl, Nat.le_refl _, fun j u hj => by simp at hj⟩, Nat.zero_le _, fun n hn => by cases hn⟩
  · obtain rfl : v = .slice (some a) len cap := by simpa using hcs
    have hlz : len ≤ zs.length := by rw [hz]; split <;> omega
    have htl : (zs.take len).length = len := by simp; omega
    refine ⟨zs.take len, ⟨some a, cap, by rw [List.length_map, htl], by rw [List.length_map, htl]; exact hl, fun j u hj => ⟨a, rfl, fun x => x, ?_⟩⟩, by omega, fun n hn => hwz n (List.mem_of_mem_take hn)⟩
    rw [List.getElem?_map, List.getElem?_take] at hj
    split at hj
    · rename_i hj'
      rw [hcell j (by omega)]
      rw [List.getElem?_eq_getElem (by omega)] at hj
      simp only [Option.map_some, Option.some.injEq] at hj
      rw [← hj]
      simp [List.getD, List.getElem?_eq_getElem (show j < zs.length by omega)]
    · cases hj
end
end Go.Proofs.YtfphoaphdfhhiaaDoor

/-
  A slice of things among the arguments: things of k cells each, opened one by one. Of whatever program.
-/
namespace Go.Proofs.YtfphoaphdfhhiaaDoor
open Go.ChangeShapes Go.WideShapes Go.RowKit Go.Deep

theorem bulk_one {H : Type} (d : DataW H) : 1 ≤ Rows.uptoBulk d := by
  unfold Rows.uptoBulk
  split <;> omega
theorem bulk_parts {H : Type} (l : List (DataW H)) : l.length ≤ Rows.uptoBulkAll l := by
  induction l with
  | nil => exact Nat.zero_le _
  | cons d r ih => have := bulk_one d; simp only [Rows.uptoBulkAll, List.length_cons]; omega
theorem bulk_mem {H : Type} {d : DataW H} {l : List (DataW H)} (h : d ∈ l) : Rows.uptoBulk d ≤ Rows.uptoBulkAll l := by
  induction l with
  | nil => cases h
  | cons x r ih =>
    simp only [Rows.uptoBulkAll]
    rcases List.mem_cons.1 h with rfl | h
    · omega
    · have := ih h; omega
theorem mem_weightsAll {H : Type} {P : Program} {e : TypeId} {d : DataW H} {n : Nat} : ∀ {l : List (DataW H)}, d ∈ l → n ∈ d.weights P e → n ∈ DataW.weightsAll P e l
  | [], h, _ => by cases h
  | x :: r, h, hn => by
    unfold DataW.weightsAll
    rcases List.mem_cons.1 h with rfl | h
    · exact List.mem_append.2 (.inl hn)
    · exact List.mem_append.2 (.inr (mem_weightsAll h hn))
section
variable {H : Type} {enc : TypeId × Value → H} {w : World} {base : Nat} {spare : Nat → Bool} {held : Bool}
/-- a slice's things lie one behind the other -/
def ListAt {Z : Type} (Good : Z → List Value → Prop) (k : Nat) (w : World) (v : Value) (zs : List Z) : Prop :=
  ∃ a cap, v = .slice a zs.length cap ∧ zs.length ≤ cap ∧ cap ≤ maxLen ∧ ∀ i z, zs[i]? = some z → ∃ b o cs, a = some ⟨b, o, none⟩ ∧ Good z cs ∧ cs.length = k ∧ ∀ j, j < k → w.cell? ⟨b, o + i * k + j, none⟩ = cs[j]?
theorem open_list {Z : Type} [Inhabited Z] {P : Program} {t e : TypeId} {k fuel : Nat} {v : Value} {x : DataW H × List MemPlace} (hk0 : 0 < k) (ht : P.underlying t = some (.slice e)) (hC : P.cellsOf e = k) (Good : Z → List Value → Prop)
    (hone : ∀ fuel cs y, cs.length = k → DataW.trod enc P w base spare held fuel e cs = some y → (∀ n ∈ y.1.weights P e, n ≤ 140737488351232) → Rows.uptoBulk y.1 ≤ Rows.uptoBulk x.1 → ∃ z, Good z cs)
    (h : DataW.trod enc P w base spare held fuel t [v] = some x) (hw : ∀ n ∈ x.1.weights P t, n ≤ 140737488351232) :
    ∃ zs : List Z, zs.length ≤ Rows.uptoBulk x.1 ∧ ListAt Good k w v zs := by
  rcases open_slice ht h with ⟨hv, _⟩ | ⟨a, len, cap, m, n, D, Pl, hv, hb, hl, hm, hmm, rfl, hx⟩
  · obtain rfl : v = .slice none 0 0 := by simpa using hv
    exact ⟨[], Nat.zero_le _, none, 0, rfl, Nat.le_refl _, Nat.zero_le _, fun i op hi => by simp at hi⟩
  · obtain rfl : v = .slice (some a) len cap := by simpa using hv
    have hlm : len ≤ m := by subst hmm; split <;> omega
    have hop : ∀ i, ∃ z : Z, i < len → ∃ b o cs, (some a : Option Addr) = some ⟨b, o, none⟩ ∧ Good z cs ∧ cs.length = k ∧ ∀ j, j < k → w.cell? ⟨b, o + i * k + j, none⟩ = cs[j]? := by
      intro i
      by_cases hi : i < len
      · obtain ⟨cs', hcs, ht'⟩ := hx i (by omega)
        obtain ⟨_, hlen, hcell⟩ := World.cells?_some hcs
        rw [hC] at hlen hcell
        obtain ⟨z, hz⟩ := hone _ cs' _ hlen ht' (fun k hk => by
          apply hw
          simp only [DataW.weights, ht]
          refine List.mem_cons_of_mem _ (List.mem_append.2 (.inl ?_))
          exact mem_weightsAll (d := D i) (List.mem_map.2 ⟨i, List.mem_range.2 hi, rfl⟩) hk) (by
          simp only [Rows.uptoBulk]
          have := bulk_mem (d := D i) (l := (List.range len).map D) (List.mem_map.2 ⟨i, List.mem_range.2 hi, rfl⟩)
          omega)
        obtain ⟨b, o, sp⟩ := a
        obtain rfl : sp = none := by
          obtain ⟨cs0, hcs0, _⟩ := hx 0 (by omega)
          obtain ⟨_, hlen0, hcell0⟩ := World.cells?_some hcs0
          have h00 := hcell0 0 (by rw [hC]; exact hk0)
          rw [List.getElem?_eq_getElem (by rw [hlen0, hC]; exact hk0), add_add, Nat.zero_mul] at h00
          simpa [Addr.add] using World.cell?_spot h00
        refine ⟨z, fun _ => ⟨b, o, cs', rfl, hz, hlen, fun j hj => ?_⟩⟩
        have := hcell j hj
        rw [add_add, add_none] at this
        rw [Nat.add_assoc]
        exact this
      · exact ⟨default, fun h => absurd h hi⟩
    refine ⟨(List.range len).map fun i => Classical.choose (hop i), ?_, some a, cap, by simp, by simpa using hl, hm, fun i op hi => ?_⟩
    · have := bulk_parts ((List.range len).map D)
      simp only [Rows.uptoBulk]
      simp only [List.length_map, List.length_range] at this ⊢
      omega
    · simp only [List.getElem?_map, Option.map_eq_some_iff] at hi
      obtain ⟨j, hj, rfl⟩ := hi
      obtain ⟨hj1, hj2⟩ := List.getElem?_eq_some_iff.1 hj
      simp only [List.getElem_range] at hj2
      subst hj2
      exact Classical.choose_spec (hop i) (by simpa using hj1)
/-- it stays where the blocks that are there stay -/
theorem ListAt.at {Z : Type} {Good : Z → List Value → Prop} {k : Nat} {v : Value} {zs : List Z} {w' : World} (h : ListAt Good k w v zs) (hb : Below w.heap.size w w') : ListAt Good k w' v zs := by
  obtain ⟨a, cap, he, h1, h2, h3⟩ := h
  refine ⟨a, cap, he, h1, h2, fun i z hi => ?_⟩
  obtain ⟨b, o, cs, ha, hg, hl, hc⟩ := h3 i z hi
  refine ⟨b, o, cs, ha, hg, hl, fun j hj => ?_⟩
  have h4 := hc j hj
  rw [List.getElem?_eq_getElem (by omega)] at h4 ⊢
  rw [hb.cell (World.block_lt_of_cell? w _ h4)]
  exact h4
end
end Go.Proofs.YtfphoaphdfhhiaaDoor

/-
  A list of bytes among the arguments.
-/
namespace Go.Proofs.YtfphoaphdfhhiaaDoor
open Go.ChangeShapes Go.WideShapes Go.RowKit

section
variable {H : Type} {enc : TypeId × Value → H} {w : World} {base : Nat} {spare : Nat → Bool} {held : Bool}
/-- a list of bytes with its reach -/
theorem open_bytes2 {P : Program} {t e : TypeId} {fuel : Nat} {v : Value} {x : DataW H × List MemPlace} (ht : P.underlying t = some (.slice e)) (he : P.underlying e = some (.int .u8)) (hc : P.cellsOf e = 1) (hby : P.bytesOf e = 1)
    (h : DataW.trod enc P w base spare held fuel t [v] = some x) (hw : ∀ n ∈ x.1.weights P t, n ≤ 140737488351232) :
    ∃ ns, Rd w v ns ∧ AreBytes ns ∧ ns.length ≤ 140737488351232 := by
  obtain ⟨ns, hr, _, hwf⟩ := open_ints1 ht he hc h
  refine ⟨ns, ⟨hr, ?_⟩, fun n hn => bounds_u8 (hwf n hn), ?_⟩
  · rcases open_ints ht he hc h with ⟨hcs, _⟩ | ⟨a, len, cap, zs, hcs, _⟩
    · obtain rfl : v = .slice none 0 0 := by simpa using hcs
      exact fun _ _ e => by injection e with _ _ e; exact e.symm
    · obtain rfl : v = .slice (some a) len cap := by simpa using hcs
      exact fun _ _ e => by injection e with e; cases e
  · rcases open_ints ht he hc h with ⟨hcs, _⟩ | ⟨a, len, cap, zs, hcs, _, hl, hm, hz, hx, _⟩
    · obtain rfl : v = .slice none 0 0 := by simpa using hcs
      obtain ⟨a, c, e, _, _⟩ := hr
      injection e with _ e _
      rw [List.length_map] at e
      omega
    · obtain rfl : v = .slice (some a) len cap := by simpa using hcs
      obtain ⟨a', c', e, _, _⟩ := hr
      injection e with _ e _
      rw [List.length_map] at e
      have := hw ((lits .u8 (zs.take len)).length * 1 + (lits .u8 (zs.drop len)).length * 1 : Nat) (by
        rw [hx]
        simp only [DataW.weights, ht, hby]
        rw [← Nat.add_mul]
        exact List.mem_cons_self ..)
      simp only [lits, List.length_map, List.length_take, List.length_drop] at this
      have hlz : len ≤ zs.length := by rw [hz]; split <;> omega
      omega
theorem bytes_of_trod {fuel : Nat} {v : Value} {x : DataW H × List MemPlace} (h : DataW.trod enc Tryd.prog w base spare held fuel 35 [v] = some x) (hw : ∀ n ∈ x.1.weights Tryd.prog 35, n ≤ 140737488351232) :
    ∃ ns, Rd w v ns ∧ AreBytes ns ∧ ns.length ≤ 140737488351232 :=
  open_bytes2 Tryd.underlying35 Tryd.underlying5 (by kernel_rfl) (by kernel_rfl) h hw
end
/-- a list of bytes among the arguments -/
def BytesArg (w : World) (v : Value) (ns : List Int) : Prop := Rd w v ns ∧ AreBytes ns ∧ ns.length ≤ 140737488351232
theorem bytes_open {H : Type} {enc : TypeId × Value → H} {w : World} {base : Nat} {spare : Nat → Bool} {held : Bool} {fuel : Nat} {v : Value} {x : DataW H × List MemPlace} (h : DataW.trod enc Tryd.prog w base spare held fuel 35 [v] = some x) (hw : ∀ n ∈ x.1.weights Tryd.prog 35, n ≤ 140737488351232) :
    ∃ ns, BytesArg w v ns := bytes_of_trod h hw

end Go.Proofs.YtfphoaphdfhhiaaDoor

/-
  A header, a frame, and a list of bytes among the arguments.
-/
namespace Go.Proofs.YtfphoaphdfhhiaaDoor
open Go.ChangeShapes Go.WideShapes Go.RowKit

/-- a header's numbers -/
structure HV where
  v : Int
  t : Int
  f : Int
  s : Int
  l : Int
def HV.ok (z : HV) : Prop := (0 ≤ z.v ∧ z.v ≤ 255) ∧ (0 ≤ z.t ∧ z.t ≤ 255) ∧ (0 ≤ z.f ∧ z.f ≤ 65535) ∧ (0 ≤ z.s ∧ z.s ≤ 4294967295) ∧ (0 ≤ z.l ∧ z.l ≤ 4294967295)
def HV.val (z : HV) : Value := hdr z.v z.t z.f z.s z.l
def HdrArg (_w : World) (v : Value) (z : HV) : Prop := v = z.val ∧ z.ok
/-- a frame: the header, the payload -/
structure FV where
  h : HV
  sl : Value
  ns : List Int
def FrameArg (w : World) (v : Value) (z : FV) : Prop := v = .agg #[.int .u8 z.h.v, .int .u8 z.h.t, .int .u16 z.h.f, .int .u32 z.h.s, .int .u32 z.h.l, z.sl] ∧ z.h.ok ∧ Rd w z.sl z.ns ∧ AreBytes z.ns ∧ z.ns.length ≤ 140737488351232

section
variable {H : Type} {enc : TypeId × Value → H} {w : World} {base : Nat} {spare : Nat → Bool} {held : Bool}

theorem trod_struct5 {P : Program} {t : TypeId} {f0 f1 f2 f3 f4 : Field} {fuel : Nat} {cs : List Value} {x : DataW H × List MemPlace} (ht : P.underlying t = some (.struct #[f0, f1, f2, f3, f4])) (h : DataW.trod enc P w base spare held fuel t cs = some x) :
    ∃ y0 y1 y2 y3 y4 n, DataW.trod enc P w base spare held n f0.type ((cs.drop f0.offset).take (P.cellsOf f0.type)) = some y0 ∧
      DataW.trod enc P w base spare held n f1.type ((cs.drop f1.offset).take (P.cellsOf f1.type)) = some y1 ∧ DataW.trod enc P w base spare held n f2.type ((cs.drop f2.offset).take (P.cellsOf f2.type)) = some y2 ∧
      DataW.trod enc P w base spare held n f3.type ((cs.drop f3.offset).take (P.cellsOf f3.type)) = some y3 ∧ DataW.trod enc P w base spare held n f4.type ((cs.drop f4.offset).take (P.cellsOf f4.type)) = some y4 := by
  obtain ⟨xs, n, _, rfl, hl, hlen, hf⟩ := DataW.trod_struct ht h
  match xs, hlen with
  | [y0, y1, y2, y3, y4], _ => exact ⟨y0, y1, y2, y3, y4, n, by simpa using hf 0 f0 rfl, by simpa using hf 1 f1 rfl, by simpa using hf 2 f2 rfl, by simpa using hf 3 f3 rfl, by simpa using hf 4 f4 rfl⟩
theorem hdr_of_trod {fuel : Nat} {c0 c1 c2 c3 c4 : Value} {x : DataW H × List MemPlace} (h : DataW.trod enc Tryd.prog w base spare held fuel 34 [c0, c1, c2, c3, c4] = some x) :
    ∃ z : HV, z.ok ∧ c0 = .int .u8 z.v ∧ c1 = .int .u8 z.t ∧ c2 = .int .u16 z.f ∧ c3 = .int .u32 z.s ∧ c4 = .int .u32 z.l := by
  obtain ⟨y0, y1, y2, y3, y4, n, t0, t1, t2, t3, t4⟩ := trod_struct5 Tryd.underlying34 h
  have cu8 : Tryd.prog.cellsOf 5 = 1 := by kernel_rfl
  have cu16 : Tryd.prog.cellsOf 31 = 1 := by kernel_rfl
  have cu32 : Tryd.prog.cellsOf 32 = 1 := by kernel_rfl
  simp only [cu8, cu16, cu32, List.drop_zero, List.drop_succ_cons, List.take_succ_cons, List.take_zero] at t0 t1 t2 t3 t4
  obtain ⟨z0, v0, w0⟩ := open_int1 Tryd.underlying5 t0
  obtain ⟨z1, v1, w1⟩ := open_int1 Tryd.underlying5 t1
  obtain ⟨z2, v2, w2⟩ := open_int1 Tryd.underlying31 t2
  obtain ⟨z3, v3, w3⟩ := open_int1 Tryd.underlying32 t3
  obtain ⟨z4, v4, w4⟩ := open_int1 Tryd.underlying32 t4
  exact ⟨⟨z0, z1, z2, z3, z4⟩, ⟨bounds_u8 w0, bounds_u8 w1, bounds_u16 w2, bounds_u32 w3, bounds_u32 w4⟩, v0, v1, v2, v3, v4⟩

theorem array5 {α : Type} {cs : Array α} (h : cs.size = 5) : ∃ c0 c1 c2 c3 c4, cs = #[c0, c1, c2, c3, c4] := by
  obtain ⟨l⟩ := cs
  match l, h with
  | [c0, c1, c2, c3, c4], _ => exact ⟨c0, c1, c2, c3, c4, rfl⟩
theorem array6 {α : Type} {cs : Array α} (h : cs.size = 6) : ∃ c0 c1 c2 c3 c4 c5, cs = #[c0, c1, c2, c3, c4, c5] := by
  obtain ⟨l⟩ := cs
  match l, h with
  | [c0, c1, c2, c3, c4, c5], _ => exact ⟨c0, c1, c2, c3, c4, c5, rfl⟩

theorem wide5 {P : Program} {r : Reach} {b0 : Nat} {t : TypeId} {f0 f1 f2 f3 f4 : Field} {v : Value} (hs : P.underlying t = some (.struct #[f0, f1, f2, f3, f4])) (hC : P.cellsOf t = 5) (hv : Value.okWide P w r b0 t v) : ∃ c0 c1 c2 c3 c4, v = .agg #[c0, c1, c2, c3, c4] := by
  obtain ⟨cs, rfl, hsz⟩ := okWide_struct hs hv
  obtain ⟨c0, c1, c2, c3, c4, rfl⟩ := array5 (hsz.trans hC)
  exact ⟨c0, c1, c2, c3, c4, rfl⟩
theorem wide6 {P : Program} {r : Reach} {b0 : Nat} {t : TypeId} {f0 f1 : Field} {v : Value} (hs : P.underlying t = some (.struct #[f0, f1])) (hC : P.cellsOf t = 6) (hv : Value.okWide P w r b0 t v) : ∃ c0 c1 c2 c3 c4 c5, v = .agg #[c0, c1, c2, c3, c4, c5] := by
  obtain ⟨cs, rfl, hsz⟩ := okWide_struct hs hv
  obtain ⟨c0, c1, c2, c3, c4, c5, rfl⟩ := array6 (hsz.trans hC)
  exact ⟨c0, c1, c2, c3, c4, c5, rfl⟩
set_option maxRecDepth 100000 in
theorem hdr_open {r : Reach} {b0 : Nat} {v : Value} {d : DataW H} {p : List MemPlace} (hv : Value.okWide Tryd.prog w r b0 34 v)
    (h : DataW.Trod enc Tryd.prog w base spare held 34 v d p) : ∃ z, HdrArg w v z := by
  have hC : Tryd.prog.cellsOf 34 = 5 := by kernel_rfl
  have hh := wide5 (P := Tryd.prog) (w := w) (r := r) (b0 := b0) (t := 34) (v := v) Tryd.underlying34 hC
  have h5 := hh hv
  clear hh hC hv
  obtain ⟨c0, c1, c2, c3, c4, hv⟩ := h5
  subst hv
  obtain ⟨fuel, hf⟩ := h
  have hf' : DataW.trod enc Tryd.prog w base spare held fuel 34 [c0, c1, c2, c3, c4] = some (d, p) := hf
  obtain ⟨z, hz, e0, e1, e2, e3, e4⟩ := hdr_of_trod hf'
  subst e0 e1 e2 e3 e4
  exact ⟨z, rfl, hz⟩

set_option maxRecDepth 100000 in
theorem frame_open {r : Reach} {b0 : Nat} {v : Value} {d : DataW H} {p : List MemPlace} (hv : Value.okWide Tryd.prog w r b0 37 v)
    (h : DataW.Trod enc Tryd.prog w base spare held 37 v d p) (hw : ∀ n ∈ d.weights Tryd.prog 37, n ≤ 140737488351232) : ∃ z, FrameArg w v z := by
  have hCH : Tryd.prog.cellsOf 34 = 5 := by kernel_rfl
  have hCB : Tryd.prog.cellsOf 35 = 1 := by kernel_rfl
  have hC : Tryd.prog.cellsOf 37 = 6 := by kernel_rfl
  have hh := wide6 (P := Tryd.prog) (w := w) (r := r) (b0 := b0) (t := 37) (v := v) Tryd.underlying37 hC
  have h6 := hh hv
  clear hh hC hv
  obtain ⟨c0, c1, c2, c3, c4, c5, hv⟩ := h6
  subst hv
  obtain ⟨fuel, hf⟩ := h
  obtain ⟨y0, y1, n, hx, _, t0, t1⟩ := trod_struct2 Tryd.underlying37 hf
  simp only [hCH, hCB, Value.cells, List.drop_zero, List.drop_succ_cons, List.take_succ_cons, List.take_zero] at t0 t1
  obtain ⟨z, hz, e0, e1, e2, e3, e4⟩ := hdr_of_trod t0
  subst e0 e1 e2 e3 e4
  simp only [Prod.mk.injEq] at hx
  obtain ⟨ns, hr, hb, hl⟩ := bytes_of_trod t1 (fun k hk => hw k (by
    rw [hx.1]
    simp only [DataW.weights, Tryd.underlying37]
    exact DataW.weights_mem_each (j := 1) (t := 35) (d := y1.1) rfl rfl k hk))
  exact ⟨⟨z, c5, ns⟩, rfl, hz, hr, hb, hl⟩
end
end Go.Proofs.YtfphoaphdfhhiaaDoor

/-
  culvertlaw06.Op among the arguments; a script of them.
-/
namespace Go.Proofs.YtfphoaphdfhhiaaDoor
open Go.ChangeShapes Go.WideShapes Go.RowKit Go.Deep

structure OpV6 where
  kind : Int
  h : HV
  sl : Value
  ns : List Int
  n : Int
instance : Inhabited OpV6 := ⟨⟨0, ⟨0, 0, 0, 0, 0⟩, .slice none 0 0, [], 0⟩⟩
def OpV6.cells (z : OpV6) : List Value := [.int .i64 z.kind, .int .u8 z.h.v, .int .u8 z.h.t, .int .u16 z.h.f, .int .u32 z.h.s, .int .u32 z.h.l, z.sl, .int .i64 z.n]
/-- what is known of an op -/
def Op6Ok (w : World) (bulk : Nat) (z : OpV6) (cs : List Value) : Prop := cs = z.cells ∧ z.h.ok ∧ Rd w z.sl z.ns ∧ AreBytes z.ns ∧ z.ns.length ≤ 140737488351232 ∧ z.ns.length ≤ bulk

section
variable {H : Type} {enc : TypeId × Value → H} {w : World} {base : Nat} {spare : Nat → Bool} {held : Bool}
theorem list6 {α : Type} {cs : List α} (h : cs.length = 6) : ∃ c0 c1 c2 c3 c4 c5, cs = [c0, c1, c2, c3, c4, c5] := by
  match cs, h with
  | [c0, c1, c2, c3, c4, c5], _ => exact ⟨c0, c1, c2, c3, c4, c5, rfl⟩
theorem list8 {α : Type} {cs : List α} (h : cs.length = 8) : ∃ c0 c1 c2 c3 c4 c5 c6 c7, cs = [c0, c1, c2, c3, c4, c5, c6, c7] := by
  match cs, h with
  | [c0, c1, c2, c3, c4, c5, c6, c7], _ => exact ⟨c0, c1, c2, c3, c4, c5, c6, c7, rfl⟩
/-- a frame's cells -/
theorem frame_of_trod {fuel : Nat} {c0 c1 c2 c3 c4 c5 : Value} {x : DataW H × List MemPlace} (h : DataW.trod enc Tryd.prog w base spare held fuel 37 [c0, c1, c2, c3, c4, c5] = some x) (hw : ∀ n ∈ x.1.weights Tryd.prog 37, n ≤ 140737488351232) :
    ∃ (z : HV) (ns : List Int), z.ok ∧ c0 = .int .u8 z.v ∧ c1 = .int .u8 z.t ∧ c2 = .int .u16 z.f ∧ c3 = .int .u32 z.s ∧ c4 = .int .u32 z.l ∧ Rd w c5 ns ∧ AreBytes ns ∧ ns.length ≤ 140737488351232 ∧ ns.length ≤ Rows.uptoBulk x.1 := by
  have hCH : Tryd.prog.cellsOf 34 = 5 := by kernel_rfl
  have hCB : Tryd.prog.cellsOf 35 = 1 := by kernel_rfl
  obtain ⟨y0, y1, n, hx, _, t0, t1⟩ := trod_struct2 Tryd.underlying37 h
  simp only [hCH, hCB, List.drop_zero, List.drop_succ_cons, List.take_succ_cons, List.take_zero] at t0 t1
  obtain ⟨z, hz, e0, e1, e2, e3, e4⟩ := hdr_of_trod t0
  have hx1 := congrArg Prod.fst hx
  obtain ⟨ns, hr, hb, hl⟩ := bytes_of_trod t1 (fun k hk => hw k (by
    rw [hx1]
    simp only [DataW.weights, Tryd.underlying37]
    exact DataW.weights_mem_each (j := 1) (t := 35) (d := y1.1) rfl rfl k hk))
  refine ⟨z, ns, hz, e0, e1, e2, e3, e4, hr, hb, hl, ?_⟩
  have h1 : ns.length ≤ Rows.uptoBulk y1.1 := by
    obtain ⟨p, c, hv⟩ := hr.shape
    rcases open_ints Tryd.underlying35 Tryd.underlying5 (by kernel_rfl) t1 with ⟨hcs, _⟩ | ⟨a, len, cap, zs, hcs, _, hl, hm, hz, hx, _⟩
    · have hv' : c5 = .slice none 0 0 := by simpa using hcs
      rw [hv] at hv'
      injection hv' with _ e2 _
      omega
    · have hv' : c5 = .slice (some a) len cap := by simpa using hcs
      rw [hv] at hv'
      injection hv' with _ e2 _
      have hlz : len ≤ zs.length := by rw [hz]; split <;> omega
      have := bulk_parts (lits (H := H) .u8 (zs.take len))
      rw [hx]
      simp only [Rows.uptoBulk]
      simp only [lits, List.length_map, List.length_take] at this
      simp only [lits]
      omega
  rw [hx1]
  simp only [Rows.uptoBulk, Rows.uptoBulkAll]
  omega
set_option maxRecDepth 100000 in
theorem op6_of_trod {fuel : Nat} {cs : List Value} {x : DataW H × List MemPlace} (hl : cs.length = 8) (h : DataW.trod enc Tryd.prog w base spare held fuel 39 cs = some x) (hw : ∀ n ∈ x.1.weights Tryd.prog 39, n ≤ 140737488351232) : ∃ z, Op6Ok w (Rows.uptoBulk x.1) z cs := by
  obtain ⟨c0, c1, c2, c3, c4, c5, c6, c7, rfl⟩ := list8 hl
  have hCI : Tryd.prog.cellsOf 3 = 1 := by kernel_rfl
  have hCF : Tryd.prog.cellsOf 37 = 6 := by kernel_rfl
  obtain ⟨xs, n', _, hDx, _, hxl, hfl⟩ := DataW.trod_struct Tryd.underlying39 h
  have hxl3 : xs.length = 3 := hxl
  have t0 : DataW.trod enc Tryd.prog w base spare held n' 3 (([c0, c1, c2, c3, c4, c5, c6, c7].drop 0).take (Tryd.prog.cellsOf 3)) = xs[0]? := hfl 0 _ rfl
  have t1 : DataW.trod enc Tryd.prog w base spare held n' 37 (([c0, c1, c2, c3, c4, c5, c6, c7].drop 1).take (Tryd.prog.cellsOf 37)) = xs[1]? := hfl 1 _ rfl
  have t2 : DataW.trod enc Tryd.prog w base spare held n' 3 (([c0, c1, c2, c3, c4, c5, c6, c7].drop 7).take (Tryd.prog.cellsOf 3)) = xs[2]? := hfl 2 _ rfl
  simp only [hCI, hCF, List.drop_zero, List.drop_succ_cons, List.take_succ_cons, List.take_zero] at t0 t1 t2
  match xs, hxl3 with
  | [x0, x1, x2], _ =>
    simp only [List.getElem?_cons_zero, List.getElem?_cons_succ] at t0 t1 t2
    obtain ⟨k, e0, _⟩ := open_int1 Tryd.underlying3 t0
    obtain ⟨m, e7, _⟩ := open_int1 Tryd.underlying3 t2
    have hx1 : x.1 = .agg [x0.1, x1.1, x2.1] := congrArg Prod.fst hDx
    obtain ⟨z, ns, hz, e1, e2, e3, e4, e5, hr, hb, hl1, hl2⟩ := frame_of_trod t1 (fun k hk => hw k (by
      rw [hx1]
      simp only [DataW.weights, Tryd.underlying39]
      exact DataW.weights_mem_each (j := 1) (t := 37) (d := x1.1) rfl rfl k hk))
    subst e0 e1 e2 e3 e4 e5 e7
    refine ⟨⟨k, z, c6, ns, m⟩, rfl, hz, hr, hb, hl1, ?_⟩
    rw [hx1]
    simp only [Rows.uptoBulk, Rows.uptoBulkAll]
    omega
def Op6Arg (w : World) (v : Value) (z : OpV6) : Prop := v = .agg z.cells.toArray ∧ ∃ b, Op6Ok w b z z.cells
set_option maxRecDepth 100000 in
theorem op6_open {r : Reach} {b0 : Nat} {v : Value} {d : DataW H} {p : List MemPlace} (hv : Value.okWide Tryd.prog w r b0 39 v)
    (h : DataW.Trod enc Tryd.prog w base spare held 39 v d p) (hw : ∀ n ∈ d.weights Tryd.prog 39, n ≤ 140737488351232) : ∃ z, Op6Arg w v z := by
  have hC : Tryd.prog.cellsOf 39 = 8 := by kernel_rfl
  obtain ⟨cs, rfl, hsz⟩ := okWide_struct Tryd.underlying39 hv
  obtain ⟨l⟩ := cs
  obtain ⟨fuel, hf⟩ := h
  have hl : l.length = 8 := by rw [hC] at hsz; simpa using hsz
  have hf' : DataW.trod enc Tryd.prog w base spare held fuel 39 l = some (d, p) := hf
  obtain ⟨z, hz⟩ := op6_of_trod hl hf' hw
  have e := hz.1
  subst e
  exact ⟨z, rfl, _, hz⟩
def Ops6Arg (w : World) (v : Value) (zs : List OpV6) : Prop := zs.length ≤ 1048576 ∧ ListAt (Op6Ok w 1048576) 8 w v zs
theorem ops6_open {fuel : Nat} {v : Value} {x : DataW H × List MemPlace} (h : DataW.trod enc Tryd.prog w base spare held fuel 22 [v] = some x) (hw : ∀ n ∈ x.1.weights Tryd.prog 22, n ≤ 140737488351232) (hk : Rows.uptoBulk x.1 ≤ 1048576) : ∃ zs, Ops6Arg w v zs := by
  obtain ⟨zs, h1, h2⟩ := open_list (k := 8) (by decide) Tryd.underlying22 (by kernel_rfl) (Op6Ok w 1048576) (fun fuel cs y hl hy hw' hb => by
    obtain ⟨z, e, a1, a2, a3, a4, a5⟩ := op6_of_trod hl hy hw'
    exact ⟨z, e, a1, a2, a3, a4, Nat.le_trans a5 (Nat.le_trans hb hk)⟩) h hw
  exact ⟨zs, Nat.le_trans h1 hk, h2⟩
end
end Go.Proofs.YtfphoaphdfhhiaaDoor

