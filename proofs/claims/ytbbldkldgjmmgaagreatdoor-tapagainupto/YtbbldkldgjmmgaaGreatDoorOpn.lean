import Derived.Test.YtbbldkldgjmmgaaGreatDoorSma
import Derived.Test.YtbbldkldgjmmgaaGreatDoorRows
import Derived.Test.YtbbldkldgjmmgaaGreatDoorOpen
import Derived.Deep.Fields
import Derived.Deep.Slices
import Derived.Test.YtbbldkldgjmmgaaGreatDoorOpenB
import Derived.Test.YtbbldkldgjmmgaaGreatDoorNms
import Derived.Test.YtbbldkldgjmmgaaGreatDoorTFrameA
import Derived.Lib.SmallJoins
import Derived.OpenShut
import Derived.SizedLaws
/-
  Rows of slices of bytes ([][]byte), by owners.
-/
namespace Go.Proofs.YtbbldkldgjmmgaaGreatDoor
open Go.RowKit

section
variable {own own' : Nat → Nat} {d d2 : Nat} {w w' : World} {fv : Value} {rs : List (List Int)} {r : List Int} {I : Nat → Prop}

/-- slices' values and what each reads -/
def Each (own : Nat → Nat) (d : Nat) (w : World) : List Value → List (List Int) → Prop
  | [], [] => True
  | v :: vs, r :: rs => RdO own d w v r ∧ Each own d w vs rs
  | _, _ => False
theorem Each.len {vs : List Value} (h : Each own d w vs rs) : vs.length = rs.length := by
  induction vs generalizing rs with
  | nil => cases rs with
    | nil => rfl
    | cons r rs => exact h.elim
  | cons v vs ih => cases rs with
    | nil => exact h.elim
    | cons r rs => simp [ih h.2]
theorem Each.at {vs : List Value} (h : Each own d w vs rs) (k : Nat) (hk : rs[k]? = some r) : ∃ v, vs[k]? = some v ∧ RdO own d w v r := by
  induction vs generalizing rs k with
  | nil => cases rs with
    | nil => simp at hk
    | cons r rs => exact h.elim
  | cons v vs ih => cases rs with
    | nil => exact h.elim
    | cons r' rs =>
      cases k with
      | zero =>
        simp only [List.getElem?_cons_zero, Option.some.injEq] at hk
        subst hk
        exact ⟨v, rfl, h.1⟩
      | succ k =>
        simp only [List.getElem?_cons_succ] at hk ⊢
        exact ih h.2 k hk
theorem Each.map {d' : Nat} {vs : List Value} (h : Each own d w vs rs) (f : ∀ v r, RdO own d w v r → RdO own' d' w' v r) : Each own' d' w' vs rs := by
  induction vs generalizing rs with
  | nil => cases rs <;> trivial
  | cons v vs ih => cases rs with
    | nil => exact h
    | cons r rs => exact ⟨f _ _ h.1, ih h.2⟩
theorem Each.sn {vs : List Value} (h : Each own d w vs rs) (s : Sn I own w own' w') (hd : ¬ I d) : Each own' d w' vs rs := h.map (fun _ _ h => h.sn s hd)
theorem Each.snoc {vs : List Value} {v : Value} (h : Each own d w vs rs) (hv : RdO own d w v r) : Each own d w (vs ++ [v]) (rs ++ [r]) := by
  induction vs generalizing rs with
  | nil => cases rs with
    | nil => exact ⟨hv, trivial⟩
    | cons r rs => exact h.elim
  | cons v vs ih => cases rs with
    | nil => exact h.elim
    | cons r rs => exact ⟨h.1, ih h.2⟩
theorem Each.take {vs : List Value} (h : Each own d w vs rs) (k : Nat) : Each own d w (vs.take k) (rs.take k) := by
  induction vs generalizing rs k with
  | nil => cases rs with
    | nil => simp [Each]
    | cons r rs => exact h.elim
  | cons v vs ih => cases rs with
    | nil => exact h.elim
    | cons r rs =>
      cases k with
      | zero => trivial
      | succ k => exact ⟨h.1, ih h.2 k⟩
/-- a [][]byte that is read; all of it d's -/
def RdL (own : Nat → Nat) (d : Nat) (w : World) (fv : Value) (rs : List (List Int)) : Prop := ∃ vs, ReadsOff Nowhere w fv vs ∧ NilOk fv ∧ (∀ g, fv.ownBlock = some g → g < w.heap.size ∧ own g = d) ∧ Each own d w vs rs
theorem RdL.nil (own : Nat → Nat) (d : Nat) (w : World) : RdL own d w (.slice none 0 0) [] :=
  ⟨[], ⟨none, 0, rfl, Nat.le_refl _, fun j u h => by simp at h⟩, fun l c e => by injection e with _ _ e; exact e.symm, fun g h => by simp [Value.ownBlock] at h, trivial⟩
theorem RdL.sn (h : RdL own d w fv rs) (s : Sn I own w own' w') (hd : ¬ I d) : RdL own' d w' fv rs := by
  obtain ⟨vs, ⟨a, c, rfl, hl, hc⟩, h2, h3, h4⟩ := h
  refine ⟨vs, ⟨a, c, rfl, hl, fun k u hk => ?_⟩, h2, fun g hg => ⟨Nat.lt_of_lt_of_le (h3 g hg).1 s.keeps.size, (s.agree g (h3 g hg).1).trans (h3 g hg).2⟩, h4.sn s hd⟩
  obtain ⟨x, rfl, hn, hce⟩ := hc k u hk
  refine ⟨x, rfl, hn, ?_⟩
  rw [World.cell?_of_block (w := w) (s.keeps.block _ (World.block_lt_of_cell? w _ hce) (by rw [add_block]; intro e; rw [(h3 x.block rfl).2] at e; exact hd e))]
  exact hce
theorem RdL.quiet (h : RdL own d w fv rs) (hk : Keeps Nowhere w w') : RdL own d w' fv rs := h.sn (I := fun _ => False) (Sn.same hk) (fun x => x)
theorem cell_spot {x : Addr} {v : Value} (h : w.cell? (x.add 0) = some v) : x.spot = none := World.cell?_spot (a := x) h
theorem RdL.at (h : RdL own d w fv rs) : ∃ a c, fv = .slice a rs.length c ∧ rs.length ≤ c ∧ ∀ (k : Nat) (r : List Int), rs[k]? = some r → ∃ g o v, a = some ⟨g, o, none⟩ ∧ w.cell? ⟨g, o + k, none⟩ = some v ∧ RdO own d w v r := by
  obtain ⟨vs, ⟨a, c, rfl, hl, hc⟩, h2, h3, h4⟩ := h
  rw [h4.len] at hl ⊢
  refine ⟨a, c, rfl, hl, fun k r hk => ?_⟩
  obtain ⟨v, hv, hr⟩ := h4.at k hk
  obtain ⟨x, rfl, _, hce⟩ := hc k v hv
  have hs : x.spot = none := by
    cases vs with
    | nil => simp at hv
    | cons u us =>
      obtain ⟨y, hy, _, hy2⟩ := hc 0 u rfl
      cases hy
      exact cell_spot hy2
  obtain ⟨g, o, sp⟩ := x
  simp only at hs
  subst hs
  rw [add_none] at hce
  exact ⟨g, o, v, rfl, hce, hr⟩
theorem linfo : (Tryz.prog.info? 32).map (fun i => (i.zero, i.size, i.bytes)) = some (some (.slice none 0 0), 1, 24) := by kernel_rfl
/-- a [][]byte of one's own: the row is d's, what it holds d2's -/
def RowL (own : Nat → Nat) (d d2 : Nat) (w : World) (fv : Value) (rs : List (List Int)) : Prop := ∃ vs, w.ownsRow 0 32 1 fv vs.length vs ∧ (∀ g, fv.ownBlock = some g → own g = d) ∧ Each own d2 w vs rs ∧ ∀ v ∈ vs, v.oneCell' = true
theorem RowL.nil (own : Nat → Nat) (d d2 : Nat) (w : World) : RowL own d d2 w (.slice none 0 0) [] := ⟨[], World.ownsRow_nil _ _ _ _, fun g h => by simp [Value.ownBlock] at h, trivial, fun v hv => by cases hv⟩
theorem RowL.sn (h : RowL own d d2 w fv rs) (s : Sn I own w own' w') (hd : ¬ I d) (hd2 : ¬ I d2) : RowL own' d d2 w' fv rs := by
  obtain ⟨vs, h1, h2, h3, h4⟩ := h
  exact ⟨vs, owns_later h1 s.keeps (fun b hb e => hd (h2 b hb ▸ e)), fun g hg => (s.agree g (owns_lt h1 g hg)).trans (h2 g hg), h3.sn s hd2, h4⟩
theorem RowL.shape (h : RowL own d d2 w fv rs) : ∃ a c, fv = .slice a rs.length c := by
  obtain ⟨vs, h1, _, h3, _⟩ := h
  obtain ⟨a, c, e⟩ := owns_val h1
  exact ⟨a, c, by rw [e, h3.len]⟩
/-- all of it d's from now on -/
theorem RowL.rdl {own' : Nat → Nat} {d' : Nat} (h : RowL own d d2 w fv rs) (ho : ∀ g, own g = d ∨ own g = d2 → own' g = d') : RdL own' d' w fv rs := by
  obtain ⟨vs, h1, h2, h3, _⟩ := h
  obtain ⟨r1, r2⟩ := owns_reads h1
  exact ⟨vs, r1.mono (fun _ x _ => x.elim), r2, fun g hg => ⟨owns_lt h1 g hg, ho g (.inl (h2 g hg))⟩, h3.map (fun v r hr => ⟨hr.1, fun g hg => ⟨(hr.2 g hg).1, ho g (.inr (hr.2 g hg).2)⟩⟩)⟩
/-- append of one: the value lies in a new block -/
theorem wpList_appendL {W : World} {v : Value} {ops : Array Oper} {rest : List Oper} {o : Oper} {a : Act} {Q : Exit → Act → World → Prop} (hgd : o.guard = none) (s x : Operand)
    (ho : o.op = .call { callee := .builtin .append, args := #[s, x], argTypes := #[39, 39] }) (hW : W = w.alloc (.cells #[v] 32)) (hown : RowL own d d2 w fv rs) (hv : RdO own d2 w v r) (hdd : d ≠ d2)
    (hb : rs.length ≤ 4398046511103) (hs : a.eval s = fv) (hx : a.eval x = .slice (some ⟨w.heap.size, 0, none⟩) 1 1)
    (h : ∀ q' l' c' w', Aside (RowL (give own w.heap.size d) d d2 w' (.slice q' l' c') (rs ++ [r]) ∧ Sn (fun k => k = d) own w (give own w.heap.size d) w') → wpList Tryz.prog ops Q rest (a.put o.dst (.slice q' l' c')) w') : wpList Tryz.prog ops Q (o :: rest) a W := by
  subst hW
  obtain ⟨vs, h1, h2, h3, h4⟩ := hown
  have hv1 : v.oneCell' = true := by obtain ⟨p, c, e⟩ := hv.shape; rw [e]; rfl
  have hk : Keeps Nowhere w (w.alloc (.cells #[v] 32)) := (Keeps.refl _ _).alloc _
  refine wpList_appendR hgd s x 39 ho 32 (.slice none 0 0) 1 24 Tryz.underlying39 linfo rfl (by decide) w hk 0 fv vs.length vs h1 _ 1 [v] (readsK_new w 32 [v]) (by simpa using hv1) (by rw [h3.len]; omega) (by rw [h3.len]; unfold maxLen; omega) (Nat.zero_le _) hs hx ?_
  intro v' w' o' k' b'
  obtain ⟨q', c', e⟩ := owns_val o'.it
  subst e
  have s1 : Sn (fun k => k = d) own w (give own w.heap.size d) w' := ⟨fun _ hk => give_old hk, hk.any.next k'.it (fun k e hlt => h2 k e)⟩
  refine h _ _ _ w' ⟨⟨vs ++ [v], by simpa using o'.it, fun g hg => ?_, (h3.snoc hv).sn s1 (fun e => hdd e.symm), fun u hu => ?_⟩, s1⟩
  · rcases b'.it g hg with e | e
    · exact (give_old (owns_lt h1 g e)).trans (h2 g e)
    · exact give_new (Nat.le_trans hk.size e)
  · rcases List.mem_append.1 hu with hu | hu
    · exact h4 u hu
    · rw [List.mem_singleton] at hu; subst hu; exact hv1
end
end Go.Proofs.YtbbldkldgjmmgaaGreatDoor

/-
  A slice of things among the arguments: things of k cells each, opened one by one. Of whatever program.
-/
namespace Go.Proofs.YtbbldkldgjmmgaaGreatDoor
open Go.ChangeShapes Go.WideShapes Go.RowKit Go.Deep

theorem bulk_one {H : Type} (d : DataW H) : 1 ≤ Rows.uptoBulk d := by
  unfold Rows.uptoBulk
  split <;> omega
theorem bulk_parts {H : Type} (l : List (DataW H)) : l.length ≤ Rows.uptoBulkAll l := by
  induction l with
  | nil => exact Nat.zero_le _
  | cons d r ih => have := bulk_one d; simp only [Rows.uptoBulkAll, List.length_cons]; omega
theorem bulk_mem {H : Type} {d : DataW H} {l : List (DataW H)} (h : d ∈ l) : Rows.uptoBulk d ≤ Rows.uptoBulkAll l := by
  induction l with
  | nil => cases h
  | cons x r ih =>
    simp only [Rows.uptoBulkAll]
    rcases List.mem_cons.1 h with rfl | h
    · omega
    · have := ih h; omega
theorem mem_weightsAll {H : Type} {P : Program} {e : TypeId} {d : DataW H} {n : Nat} : ∀ {l : List (DataW H)}, d ∈ l → n ∈ d.weights P e → n ∈ DataW.weightsAll P e l
  | [], h, _ => by cases h
  | x :: r, h, hn => by
    unfold DataW.weightsAll
    rcases List.mem_cons.1 h with rfl | h
    · exact List.mem_append.2 (.inl hn)
    · exact List.mem_append.2 (.inr (mem_weightsAll h hn))
section
variable {H : Type} {enc : TypeId × Value → H} {w : World} {base : Nat} {spare : Nat → Bool} {held : Bool}
/-- a slice's things lie one behind the other -/
def ListAt {Z : Type} (Good : Z → List Value → Prop) (k : Nat) (w : World) (v : Value) (zs : List Z) : Prop :=
  ∃ a cap, v = .slice a zs.length cap ∧ zs.length ≤ cap ∧ cap ≤ maxLen ∧ ∀ i z, zs[i]? = some z → ∃ b o cs, a = some ⟨b, o, none⟩ ∧ Good z cs ∧ cs.length = k ∧ ∀ j, j < k → w.cell? ⟨b, o + i * k + j, none⟩ = cs[j]?
theorem open_list {Z : Type} [Inhabited Z] {P : Program} {t e : TypeId} {k fuel : Nat} {v : Value} {x : DataW H × List MemPlace} (hk0 : 0 < k) (ht : P.underlying t = some (.slice e)) (hC : P.cellsOf e = k) (Good : Z → List Value → Prop)
    (hone : ∀ fuel cs y, cs.length = k → DataW.trod enc P w base spare held fuel e cs = some y → (∀ n ∈ y.1.weights P e, n ≤ 140737488351232) → Rows.uptoBulk y.1 ≤ Rows.uptoBulk x.1 → ∃ z, Good z cs)
    (h : DataW.trod enc P w base spare held fuel t [v] = some x) (hw : ∀ n ∈ x.1.weights P t, n ≤ 140737488351232) :
    ∃ zs : List Z, zs.length ≤ Rows.uptoBulk x.1 ∧ ListAt Good k w v zs := by
  rcases open_slice ht h with ⟨hv, _⟩ | ⟨a, len, cap, m, n, D, Pl, hv, hb, hl, hm, hmm, rfl, hx⟩
  · obtain rfl : v = .slice none 0 0 := by simpa using hv
    exact ⟨[], Nat.zero_le _, none, 0, rfl, Nat.le_refl _, Nat.zero_le _, fun i op hi => by simp at hi⟩
  · obtain rfl : v = .slice (some a) len cap := by simpa using hv
    have hlm : len ≤ m := by subst hmm; split <;> omega
    have hop : ∀ i, ∃ z : Z, i < len → ∃ b o cs, (some a : Option Addr) = some ⟨b, o, none⟩ ∧ Good z cs ∧ cs.length = k ∧ ∀ j, j < k → w.cell? ⟨b, o + i * k + j, none⟩ = cs[j]? := by
      intro i
      by_cases hi : i < len
      · obtain ⟨cs', hcs, ht'⟩ := hx i (by omega)
        obtain ⟨_, hlen, hcell⟩ := World.cells?_some hcs
        rw [hC] at hlen hcell
        obtain ⟨z, hz⟩ := hone _ cs' _ hlen ht' (fun k hk => by
          apply hw
          simp only [DataW.weights, ht]
          refine List.mem_cons_of_mem _ (List.mem_append.2 (.inl ?_))
          exact mem_weightsAll (d := D i) (List.mem_map.2 ⟨i, List.mem_range.2 hi, rfl⟩) hk) (by
          simp only [Rows.uptoBulk]
          have := bulk_mem (d := D i) (l := (List.range len).map D) (List.mem_map.2 ⟨i, List.mem_range.2 hi, rfl⟩)
          omega)
        obtain ⟨b, o, sp⟩ := a
        obtain rfl : sp = none := by
          obtain ⟨cs0, hcs0, _⟩ := hx 0 (by omega)
          obtain ⟨_, hlen0, hcell0⟩ := World.cells?_some hcs0
          have h00 := hcell0 0 (by rw [hC]; exact hk0)
          rw [List.getElem?_eq_getElem (by rw [hlen0, hC]; exact hk0), add_add, Nat.zero_mul] at h00
          simpa [Addr.add] using World.cell?_spot h00
        refine ⟨z, fun _ => ⟨b, o, cs', rfl, hz, hlen, fun j hj => ?_⟩⟩
        have := hcell j hj
        rw [add_add, add_none] at this
        rw [Nat.add_assoc]
        exact this
      · exact ⟨default, fun h => absurd h hi⟩
    refine ⟨(List.range len).map fun i => Classical.choose (hop i), ?_, some a, cap, by simp, by simpa using hl, hm, fun i op hi => ?_⟩
    · have := bulk_parts ((List.range len).map D)
      simp only [Rows.uptoBulk]
      simp only [List.length_map, List.length_range] at this ⊢
      omega
    · simp only [List.getElem?_map, Option.map_eq_some_iff] at hi
      obtain ⟨j, hj, rfl⟩ := hi
      obtain ⟨hj1, hj2⟩ := List.getElem?_eq_some_iff.1 hj
      simp only [List.getElem_range] at hj2
      subst hj2
      exact Classical.choose_spec (hop i) (by simpa using hj1)
/-- it stays where the blocks that are there stay -/
theorem ListAt.at {Z : Type} {Good : Z → List Value → Prop} {k : Nat} {v : Value} {zs : List Z} {w' : World} (h : ListAt Good k w v zs) (hb : Below w.heap.size w w') : ListAt Good k w' v zs := by
  obtain ⟨a, cap, he, h1, h2, h3⟩ := h
  refine ⟨a, cap, he, h1, h2, fun i z hi => ?_⟩
  obtain ⟨b, o, cs, ha, hg, hl, hc⟩ := h3 i z hi
  refine ⟨b, o, cs, ha, hg, hl, fun j hj => ?_⟩
  have h4 := hc j hj
  rw [List.getElem?_eq_getElem (by omega)] at h4 ⊢
  rw [hb.cell (World.block_lt_of_cell? w _ h4)]
  exact h4
end
end Go.Proofs.YtbbldkldgjmmgaaGreatDoor

/-
  A header, a frame, and a list of bytes among the arguments.
-/
namespace Go.Proofs.YtbbldkldgjmmgaaGreatDoor
open Go.ChangeShapes Go.WideShapes Go.RowKit

/-- a header's numbers -/
structure HV where
  v : Int
  t : Int
  f : Int
  s : Int
  l : Int
def HV.ok (z : HV) : Prop := (0 ≤ z.v ∧ z.v ≤ 255) ∧ (0 ≤ z.t ∧ z.t ≤ 255) ∧ (0 ≤ z.f ∧ z.f ≤ 65535) ∧ (0 ≤ z.s ∧ z.s ≤ 4294967295) ∧ (0 ≤ z.l ∧ z.l ≤ 4294967295)
def HV.val (z : HV) : Value := hdr z.v z.t z.f z.s z.l
def HdrArg (_w : World) (v : Value) (z : HV) : Prop := v = z.val ∧ z.ok
/-- a frame: the header, the payload -/
structure FV where
  h : HV
  sl : Value
  ns : List Int
def FrameArg (w : World) (v : Value) (z : FV) : Prop := v = .agg #[.int .u8 z.h.v, .int .u8 z.h.t, .int .u16 z.h.f, .int .u32 z.h.s, .int .u32 z.h.l, z.sl] ∧ z.h.ok ∧ Rd w z.sl z.ns ∧ AreBytes z.ns ∧ z.ns.length ≤ 140737488351232

section
variable {H : Type} {enc : TypeId × Value → H} {w : World} {base : Nat} {spare : Nat → Bool} {held : Bool}

theorem trod_struct5 {P : Program} {t : TypeId} {f0 f1 f2 f3 f4 : Field} {fuel : Nat} {cs : List Value} {x : DataW H × List MemPlace} (ht : P.underlying t = some (.struct #[f0, f1, f2, f3, f4])) (h : DataW.trod enc P w base spare held fuel t cs = some x) :
    ∃ y0 y1 y2 y3 y4 n, DataW.trod enc P w base spare held n f0.type ((cs.drop f0.offset).take (P.cellsOf f0.type)) = some y0 ∧
      DataW.trod enc P w base spare held n f1.type ((cs.drop f1.offset).take (P.cellsOf f1.type)) = some y1 ∧ DataW.trod enc P w base spare held n f2.type ((cs.drop f2.offset).take (P.cellsOf f2.type)) = some y2 ∧
      DataW.trod enc P w base spare held n f3.type ((cs.drop f3.offset).take (P.cellsOf f3.type)) = some y3 ∧ DataW.trod enc P w base spare held n f4.type ((cs.drop f4.offset).take (P.cellsOf f4.type)) = some y4 := by
  obtain ⟨xs, n, _, rfl, hl, hlen, hf⟩ := DataW.trod_struct ht h
  match xs, hlen with
  | [y0, y1, y2, y3, y4], _ => exact ⟨y0, y1, y2, y3, y4, n, by simpa using hf 0 f0 rfl, by simpa using hf 1 f1 rfl, by simpa using hf 2 f2 rfl, by simpa using hf 3 f3 rfl, by simpa using hf 4 f4 rfl⟩
theorem hdr_of_trod {fuel : Nat} {c0 c1 c2 c3 c4 : Value} {x : DataW H × List MemPlace} (h : DataW.trod enc Tryz.prog w base spare held fuel 31 [c0, c1, c2, c3, c4] = some x) :
    ∃ z : HV, z.ok ∧ c0 = .int .u8 z.v ∧ c1 = .int .u8 z.t ∧ c2 = .int .u16 z.f ∧ c3 = .int .u32 z.s ∧ c4 = .int .u32 z.l := by
  obtain ⟨y0, y1, y2, y3, y4, n, t0, t1, t2, t3, t4⟩ := trod_struct5 Tryz.underlying31 h
  have cu8 : Tryz.prog.cellsOf 5 = 1 := by kernel_rfl
  have cu16 : Tryz.prog.cellsOf 28 = 1 := by kernel_rfl
  have cu32 : Tryz.prog.cellsOf 29 = 1 := by kernel_rfl
  simp only [cu8, cu16, cu32, List.drop_zero, List.drop_succ_cons, List.take_succ_cons, List.take_zero] at t0 t1 t2 t3 t4
  obtain ⟨z0, v0, w0⟩ := open_int1 Tryz.underlying5 t0
  obtain ⟨z1, v1, w1⟩ := open_int1 Tryz.underlying5 t1
  obtain ⟨z2, v2, w2⟩ := open_int1 Tryz.underlying28 t2
  obtain ⟨z3, v3, w3⟩ := open_int1 Tryz.underlying29 t3
  obtain ⟨z4, v4, w4⟩ := open_int1 Tryz.underlying29 t4
  exact ⟨⟨z0, z1, z2, z3, z4⟩, ⟨bounds_u8 w0, bounds_u8 w1, bounds_u16 w2, bounds_u32 w3, bounds_u32 w4⟩, v0, v1, v2, v3, v4⟩

theorem array5 {α : Type} {cs : Array α} (h : cs.size = 5) : ∃ c0 c1 c2 c3 c4, cs = #[c0, c1, c2, c3, c4] := by
  obtain ⟨l⟩ := cs
  match l, h with
  | [c0, c1, c2, c3, c4], _ => exact ⟨c0, c1, c2, c3, c4, rfl⟩
theorem array6 {α : Type} {cs : Array α} (h : cs.size = 6) : ∃ c0 c1 c2 c3 c4 c5, cs = #[c0, c1, c2, c3, c4, c5] := by
  obtain ⟨l⟩ := cs
  match l, h with
  | [c0, c1, c2, c3, c4, c5], _ => exact ⟨c0, c1, c2, c3, c4, c5, rfl⟩

theorem wide5 {P : Program} {r : Reach} {b0 : Nat} {t : TypeId} {f0 f1 f2 f3 f4 : Field} {v : Value} (hs : P.underlying t = some (.struct #[f0, f1, f2, f3, f4])) (hC : P.cellsOf t = 5) (hv : Value.okWide P w r b0 t v) : ∃ c0 c1 c2 c3 c4, v = .agg #[c0, c1, c2, c3, c4] := by
  obtain ⟨cs, rfl, hsz⟩ := okWide_struct hs hv
  obtain ⟨c0, c1, c2, c3, c4, rfl⟩ := array5 (hsz.trans hC)
  exact ⟨c0, c1, c2, c3, c4, rfl⟩
theorem wide6 {P : Program} {r : Reach} {b0 : Nat} {t : TypeId} {f0 f1 : Field} {v : Value} (hs : P.underlying t = some (.struct #[f0, f1])) (hC : P.cellsOf t = 6) (hv : Value.okWide P w r b0 t v) : ∃ c0 c1 c2 c3 c4 c5, v = .agg #[c0, c1, c2, c3, c4, c5] := by
  obtain ⟨cs, rfl, hsz⟩ := okWide_struct hs hv
  obtain ⟨c0, c1, c2, c3, c4, c5, rfl⟩ := array6 (hsz.trans hC)
  exact ⟨c0, c1, c2, c3, c4, c5, rfl⟩
set_option maxRecDepth 100000 in
theorem hdr_open {r : Reach} {b0 : Nat} {v : Value} {d : DataW H} {p : List MemPlace} (hv : Value.okWide Tryz.prog w r b0 31 v)
    (h : DataW.Trod enc Tryz.prog w base spare held 31 v d p) : ∃ z, HdrArg w v z := by
  have hC : Tryz.prog.cellsOf 31 = 5 := by kernel_rfl
  have hh := wide5 (P := Tryz.prog) (w := w) (r := r) (b0 := b0) (t := 31) (v := v) Tryz.underlying31 hC
  have h5 := hh hv
  clear hh hC hv
  obtain ⟨c0, c1, c2, c3, c4, hv⟩ := h5
  subst hv
  obtain ⟨fuel, hf⟩ := h
  have hf' : DataW.trod enc Tryz.prog w base spare held fuel 31 [c0, c1, c2, c3, c4] = some (d, p) := hf
  obtain ⟨z, hz, e0, e1, e2, e3, e4⟩ := hdr_of_trod hf'
  subst e0 e1 e2 e3 e4
  exact ⟨z, rfl, hz⟩

set_option maxRecDepth 100000 in
theorem frame_open {r : Reach} {b0 : Nat} {v : Value} {d : DataW H} {p : List MemPlace} (hv : Value.okWide Tryz.prog w r b0 34 v)
    (h : DataW.Trod enc Tryz.prog w base spare held 34 v d p) (hw : ∀ n ∈ d.weights Tryz.prog 34, n ≤ 140737488351232) : ∃ z, FrameArg w v z := by
  have hCH : Tryz.prog.cellsOf 31 = 5 := by kernel_rfl
  have hCB : Tryz.prog.cellsOf 32 = 1 := by kernel_rfl
  have hC : Tryz.prog.cellsOf 34 = 6 := by kernel_rfl
  have hh := wide6 (P := Tryz.prog) (w := w) (r := r) (b0 := b0) (t := 34) (v := v) Tryz.underlying34 hC
  have h6 := hh hv
  clear hh hC hv
  obtain ⟨c0, c1, c2, c3, c4, c5, hv⟩ := h6
  subst hv
  obtain ⟨fuel, hf⟩ := h
  obtain ⟨y0, y1, n, hx, _, t0, t1⟩ := trod_struct2 Tryz.underlying34 hf
  simp only [hCH, hCB, Value.cells, List.drop_zero, List.drop_succ_cons, List.take_succ_cons, List.take_zero] at t0 t1
  obtain ⟨z, hz, e0, e1, e2, e3, e4⟩ := hdr_of_trod t0
  subst e0 e1 e2 e3 e4
  simp only [Prod.mk.injEq] at hx
  obtain ⟨ns, hr, hb, hl⟩ := bytes_of_trod t1 (fun k hk => hw k (by
    rw [hx.1]
    simp only [DataW.weights, Tryz.underlying34]
    exact DataW.weights_mem_each (j := 1) (t := 32) (d := y1.1) rfl rfl k hk))
  exact ⟨⟨z, c5, ns⟩, rfl, hz, hr, hb, hl⟩
end
end Go.Proofs.YtbbldkldgjmmgaaGreatDoor

/-
  culvertlaw06.Op among the arguments; a script of them.
-/
namespace Go.Proofs.YtbbldkldgjmmgaaGreatDoor
open Go.ChangeShapes Go.WideShapes Go.RowKit Go.Deep

structure OpV6 where
  kind : Int
  h : HV
  sl : Value
  ns : List Int
  n : Int
instance : Inhabited OpV6 := ⟨⟨0, ⟨0, 0, 0, 0, 0⟩, .slice none 0 0, [], 0⟩⟩
def OpV6.cells (z : OpV6) : List Value := [.int .i64 z.kind, .int .u8 z.h.v, .int .u8 z.h.t, .int .u16 z.h.f, .int .u32 z.h.s, .int .u32 z.h.l, z.sl, .int .i64 z.n]
/-- what is known of an op -/
def Op6Ok (w : World) (bulk : Nat) (z : OpV6) (cs : List Value) : Prop := cs = z.cells ∧ z.h.ok ∧ Rd w z.sl z.ns ∧ AreBytes z.ns ∧ z.ns.length ≤ 140737488351232 ∧ z.ns.length ≤ bulk

section
variable {H : Type} {enc : TypeId × Value → H} {w : World} {base : Nat} {spare : Nat → Bool} {held : Bool}
theorem list6 {α : Type} {cs : List α} (h : cs.length = 6) : ∃ c0 c1 c2 c3 c4 c5, cs = [c0, c1, c2, c3, c4, c5] := by
  match cs, h with
  | [c0, c1, c2, c3, c4, c5], _ => exact ⟨c0, c1, c2, c3, c4, c5, rfl⟩
theorem list8 {α : Type} {cs : List α} (h : cs.length = 8) : ∃ c0 c1 c2 c3 c4 c5 c6 c7, cs = [c0, c1, c2, c3, c4, c5, c6, c7] := by
  match cs, h with
  | [c0, c1, c2, c3, c4, c5, c6, c7], _ => exact ⟨c0, c1, c2, c3, c4, c5, c6, c7, rfl⟩
/-- a frame's cells -/
theorem frame_of_trod {fuel : Nat} {c0 c1 c2 c3 c4 c5 : Value} {x : DataW H × List MemPlace} (h : DataW.trod enc Tryz.prog w base spare held fuel 34 [c0, c1, c2, c3, c4, c5] = some x) (hw : ∀ n ∈ x.1.weights Tryz.prog 34, n ≤ 140737488351232) :
    ∃ (z : HV) (ns : List Int), z.ok ∧ c0 = .int .u8 z.v ∧ c1 = .int .u8 z.t ∧ c2 = .int .u16 z.f ∧ c3 = .int .u32 z.s ∧ c4 = .int .u32 z.l ∧ Rd w c5 ns ∧ AreBytes ns ∧ ns.length ≤ 140737488351232 ∧ ns.length ≤ Rows.uptoBulk x.1 := by
  have hCH : Tryz.prog.cellsOf 31 = 5 := by kernel_rfl
  have hCB : Tryz.prog.cellsOf 32 = 1 := by kernel_rfl
  obtain ⟨y0, y1, n, hx, _, t0, t1⟩ := trod_struct2 Tryz.underlying34 h
  simp only [hCH, hCB, List.drop_zero, List.drop_succ_cons, List.take_succ_cons, List.take_zero] at t0 t1
  obtain ⟨z, hz, e0, e1, e2, e3, e4⟩ := hdr_of_trod t0
  have hx1 := congrArg Prod.fst hx
  obtain ⟨ns, hr, hb, hl⟩ := bytes_of_trod t1 (fun k hk => hw k (by
    rw [hx1]
    simp only [DataW.weights, Tryz.underlying34]
    exact DataW.weights_mem_each (j := 1) (t := 32) (d := y1.1) rfl rfl k hk))
  refine ⟨z, ns, hz, e0, e1, e2, e3, e4, hr, hb, hl, ?_⟩
  have h1 : ns.length ≤ Rows.uptoBulk y1.1 := by
    obtain ⟨p, c, hv⟩ := hr.shape
    rcases open_ints Tryz.underlying32 Tryz.underlying5 (by kernel_rfl) t1 with ⟨hcs, _⟩ | ⟨a, len, cap, zs, hcs, _, hl, hm, hz, hx, _⟩
    · have hv' : c5 = .slice none 0 0 := by simpa using hcs
      rw [hv] at hv'
      injection hv' with _ e2 _
      omega
    · have hv' : c5 = .slice (some a) len cap := by simpa using hcs
      rw [hv] at hv'
      injection hv' with _ e2 _
      have hlz : len ≤ zs.length := by rw [hz]; split <;> omega
      have := bulk_parts (lits (H := H) .u8 (zs.take len))
      rw [hx]
      simp only [Rows.uptoBulk]
      simp only [lits, List.length_map, List.length_take] at this
      simp only [lits]
      omega
  rw [hx1]
  simp only [Rows.uptoBulk, Rows.uptoBulkAll]
  omega
def Op6Arg (w : World) (v : Value) (z : OpV6) : Prop := v = .agg z.cells.toArray ∧ ∃ b, Op6Ok w b z z.cells
def Ops6Arg (w : World) (v : Value) (zs : List OpV6) : Prop := zs.length ≤ 1048576 ∧ ListAt (Op6Ok w 1048576) 8 w v zs
end
end Go.Proofs.YtbbldkldgjmmgaaGreatDoor

/-
  []api.Frame among the arguments, with its bulk.
-/
namespace Go.Proofs.YtbbldkldgjmmgaaGreatDoor
open Go.ChangeShapes Go.WideShapes Go.RowKit Go.Deep

structure FrV where
  h : HV
  sl : Value
  ns : List Int
instance : Inhabited FrV := ⟨⟨⟨0, 0, 0, 0, 0⟩, .slice none 0 0, []⟩⟩
def FrV.cells (z : FrV) : List Value := [.int .u8 z.h.v, .int .u8 z.h.t, .int .u16 z.h.f, .int .u32 z.h.s, .int .u32 z.h.l, z.sl]
/-- what is known of a frame -/
def FrArgOk (w : World) (bulk : Nat) (z : FrV) (cs : List Value) : Prop := cs = z.cells ∧ z.h.ok ∧ Rd w z.sl z.ns ∧ AreBytes z.ns ∧ z.ns.length ≤ 140737488351232 ∧ z.ns.length ≤ bulk
section
variable {H : Type} {enc : TypeId × Value → H} {w : World} {base : Nat} {spare : Nat → Bool} {held : Bool}
def FramesArgU (w : World) (v : Value) (zs : List FrV) : Prop := zs.length ≤ 1048576 ∧ ListAt (FrArgOk w 1048576) 6 w v zs
theorem frames_openU {fuel : Nat} {v : Value} {x : DataW H × List MemPlace} (h : DataW.trod enc Tryz.prog w base spare held fuel 22 [v] = some x) (hw : ∀ n ∈ x.1.weights Tryz.prog 22, n ≤ 140737488351232) (hk : Rows.uptoBulk x.1 ≤ 1048576) : ∃ zs, FramesArgU w v zs := by
  obtain ⟨zs, h1, h2⟩ := open_list (k := 6) (by decide) Tryz.underlying22 (by kernel_rfl) (FrArgOk w 1048576) (fun fuel cs y hl hy hw' hb => by
    obtain ⟨c0, c1, c2, c3, c4, c5, rfl⟩ := list6 hl
    obtain ⟨z, ns, hz, e0, e1, e2, e3, e4, hr, hb', hl1, hl2⟩ := frame_of_trod hy hw'
    subst e0 e1 e2 e3 e4
    exact ⟨⟨z, c5, ns⟩, rfl, hz, hr, hb', hl1, Nat.le_trans hl2 (Nat.le_trans hb hk)⟩) h hw
  exact ⟨zs, Nat.le_trans h1 hk, h2⟩
end
end Go.Proofs.YtbbldkldgjmmgaaGreatDoor

/-
  A list among the arguments, with a sum over its things. Of whatever program.
-/
namespace Go.Proofs.YtbbldkldgjmmgaaGreatDoor
open Go.ChangeShapes Go.WideShapes Go.RowKit Go.Deep

theorem bulk_sum {H : Type} (D : Nat → DataW H) (f : Nat → Nat) : ∀ (l : List Nat), (∀ i ∈ l, f i ≤ Rows.uptoBulk (D i)) → (l.map f).sum ≤ Rows.uptoBulkAll (l.map D)
  | [], _ => Nat.zero_le _
  | a :: l, h => by
    have h1 := h a (by simp)
    have h2 := bulk_sum D f l (fun i hi => h i (by simp [hi]))
    simp only [List.map_cons, List.sum_cons, Rows.uptoBulkAll]
    omega
section
variable {H : Type} {enc : TypeId × Value → H} {w : World} {base : Nat} {spare : Nat → Bool} {held : Bool}
theorem open_sum {Z : Type} [Inhabited Z] {P : Program} {t e : TypeId} {k fuel : Nat} {v : Value} {x : DataW H × List MemPlace} (hk0 : 0 < k) (ht : P.underlying t = some (.slice e)) (hC : P.cellsOf e = k) (Good : Z → List Value → Prop) (sz : Z → Nat)
    (hone : ∀ fuel cs y, cs.length = k → DataW.trod enc P w base spare held fuel e cs = some y → (∀ n ∈ y.1.weights P e, n ≤ 140737488351232) → Rows.uptoBulk y.1 ≤ Rows.uptoBulk x.1 → ∃ z, Good z cs ∧ sz z ≤ Rows.uptoBulk y.1)
    (h : DataW.trod enc P w base spare held fuel t [v] = some x) (hw : ∀ n ∈ x.1.weights P t, n ≤ 140737488351232) :
    ∃ zs : List Z, zs.length ≤ Rows.uptoBulk x.1 ∧ (zs.map sz).sum ≤ Rows.uptoBulk x.1 ∧ ListAt Good k w v zs := by
  rcases open_slice ht h with ⟨hv, _⟩ | ⟨a, len, cap, m, n, D, Pl, hv, hb, hl, hm, hmm, rfl, hx⟩
  · obtain rfl : v = .slice none 0 0 := by simpa using hv
    exact ⟨[], Nat.zero_le _, Nat.zero_le _, none, 0, rfl, Nat.le_refl _, Nat.zero_le _, fun i op hi => by simp at hi⟩
  · obtain rfl : v = .slice (some a) len cap := by simpa using hv
    have hlm : len ≤ m := by subst hmm; split <;> omega
    have hop : ∀ i, ∃ z : Z, i < len → sz z ≤ Rows.uptoBulk (D i) ∧ ∃ b o cs, (some a : Option Addr) = some ⟨b, o, none⟩ ∧ Good z cs ∧ cs.length = k ∧ ∀ j, j < k → w.cell? ⟨b, o + i * k + j, none⟩ = cs[j]? := by
      intro i
      by_cases hi : i < len
      · obtain ⟨cs', hcs, ht'⟩ := hx i (by omega)
        obtain ⟨_, hlen, hcell⟩ := World.cells?_some hcs
        rw [hC] at hlen hcell
        obtain ⟨z, hz, hs⟩ := hone _ cs' _ hlen ht' (fun k hk => by
          apply hw
          simp only [DataW.weights, ht]
          refine List.mem_cons_of_mem _ (List.mem_append.2 (.inl ?_))
          exact mem_weightsAll (d := D i) (List.mem_map.2 ⟨i, List.mem_range.2 hi, rfl⟩) hk) (by
          simp only [Rows.uptoBulk]
          have := bulk_mem (d := D i) (l := (List.range len).map D) (List.mem_map.2 ⟨i, List.mem_range.2 hi, rfl⟩)
          omega)
        obtain ⟨b, o, sp⟩ := a
        obtain rfl : sp = none := by
          obtain ⟨cs0, hcs0, _⟩ := hx 0 (by omega)
          obtain ⟨_, hlen0, hcell0⟩ := World.cells?_some hcs0
          have h00 := hcell0 0 (by rw [hC]; exact hk0)
          rw [List.getElem?_eq_getElem (by rw [hlen0, hC]; exact hk0), add_add, Nat.zero_mul] at h00
          simpa [Addr.add] using World.cell?_spot h00
        refine ⟨z, fun _ => ⟨hs, b, o, cs', rfl, hz, hlen, fun j hj => ?_⟩⟩
        have := hcell j hj
        rw [add_add, add_none] at this
        rw [Nat.add_assoc]
        exact this
      · exact ⟨default, fun h => absurd h hi⟩
    refine ⟨(List.range len).map fun i => Classical.choose (hop i), ?_, ?_, some a, cap, by simp, by simpa using hl, hm, fun i op hi => ?_⟩
    · have := bulk_parts ((List.range len).map D)
      simp only [Rows.uptoBulk]
      simp only [List.length_map, List.length_range] at this ⊢
      omega
    · have := bulk_sum D (fun i => sz (Classical.choose (hop i))) (List.range len) (fun i hi => (Classical.choose_spec (hop i) (List.mem_range.1 hi)).1)
      simp only [Rows.uptoBulk]
      rw [List.map_map]
      have e : (sz ∘ fun i => Classical.choose (hop i)) = fun i => sz (Classical.choose (hop i)) := rfl
      rw [e]
      omega
    · simp only [List.getElem?_map, Option.map_eq_some_iff] at hi
      obtain ⟨j, hj, rfl⟩ := hi
      obtain ⟨hj1, hj2⟩ := List.getElem?_eq_some_iff.1 hj
      simp only [List.getElem_range] at hj2
      subst hj2
      exact (Classical.choose_spec (hop i) (by simpa using hj1)).2
end
end Go.Proofs.YtbbldkldgjmmgaaGreatDoor

/-
  []api.Frame among the arguments, with the sum of its payloads' lengths.
-/
namespace Go.Proofs.YtbbldkldgjmmgaaGreatDoor
open Go.ChangeShapes Go.WideShapes Go.RowKit Go.Deep

section
variable {H : Type} {enc : TypeId × Value → H} {w : World} {base : Nat} {spare : Nat → Bool} {held : Bool}
def FramesArgS (w : World) (v : Value) (zs : List FrV) : Prop := zs.length ≤ 1048576 ∧ (zs.map (fun z => z.ns.length)).sum ≤ 1048576 ∧ ListAt (FrArgOk w 1048576) 6 w v zs
set_option maxRecDepth 100000 in
theorem frames_openS {fuel : Nat} {v : Value} {x : DataW H × List MemPlace} (h : DataW.trod enc Tryz.prog w base spare held fuel 22 [v] = some x) (hw : ∀ n ∈ x.1.weights Tryz.prog 22, n ≤ 140737488351232) (hk : Rows.uptoBulk x.1 ≤ 1048576) : ∃ zs, FramesArgS w v zs := by
  obtain ⟨zs, h1, h2, h3⟩ := open_sum (k := 6) (by decide) Tryz.underlying22 (by kernel_rfl) (FrArgOk w 1048576) (fun z => z.ns.length) (fun fuel cs y hl hy hw' hb => by
    obtain ⟨c0, c1, c2, c3, c4, c5, rfl⟩ := list6 hl
    obtain ⟨z, ns, hz, e0, e1, e2, e3, e4, hr, hb', hl1, hl2⟩ := frame_of_trod hy hw'
    subst e0 e1 e2 e3 e4
    exact ⟨⟨z, c5, ns⟩, ⟨rfl, hz, hr, hb', hl1, Nat.le_trans hl2 (Nat.le_trans hb hk)⟩, hl2⟩) h hw
  exact ⟨zs, Nat.le_trans h1 hk, Nat.le_trans h2 hk, h3⟩
end
end Go.Proofs.YtbbldkldgjmmgaaGreatDoor

