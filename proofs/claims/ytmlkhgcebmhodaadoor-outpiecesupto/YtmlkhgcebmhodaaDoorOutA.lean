/-
  package out: what a buffer is in memory; New, Frames, Len
-/
import Derived.Test.YtmlkhgcebmhodaaDoorSn
import Derived.Test.YtmlkhgcebmhodaaDoorQueRlaid
import Derived.Test.YtmlkhgcebmhodaaDoorOutP
import Derived.Test.YtmlkhgcebmhodaaDoorOwnB
import Derived.Test.YtmlkhgcebmhodaaDoorFrameH
namespace Go.Proofs.YtmlkhgcebmhodaaDoor
open Go.RowKit

theorem Flaid.FifoO_sn {I : Nat → Prop} {own own' : Nat → Nat} {w w' : World} {i p rt rw : Nat} {q : List (Nat × Nat)} (h : Flaid.FifoO own i w p rt rw q) (s : Sn I own w own' w') (hi : ¬ I i) : Flaid.FifoO own' i w' p rt rw q := by
  obtain ⟨v, f, g, h1, h2, h3, h4⟩ := h
  refine ⟨v, f, g, h1.later s.keeps ?_, h2, (s.agree p (h1.lt p (.inl rfl))).trans h3, fun k hk => (s.agree k (h1.lt k (.inr hk))).trans (h4 k hk)⟩
  rintro k (rfl | hk) e
  · rw [h3] at e; exact hi e
  · rw [h4 k hk] at e; exact hi e

/-- bytes that are read, in a block that is j's -/
def RdO (own : Nat → Nat) (j : Nat) (w : World) (v : Value) (ns : List Int) : Prop := Rd w v ns ∧ ∀ g, v.ownBlock = some g → g < w.heap.size ∧ own g = j
theorem Rd.keep {S : Nat → Prop} {w w' : World} {v : Value} {ns : List Int} (h : Rd w v ns) (hk : Keeps S w w') (hs : ∀ g, v.ownBlock = some g → ¬ S g) : Rd w' v ns := by
  obtain ⟨⟨a, c, rfl, hl, hc⟩, hn⟩ := h
  refine ⟨⟨a, c, rfl, hl, fun k u hj => ?_⟩, hn⟩
  obtain ⟨x, hx, hn', hcell⟩ := hc k u hj
  refine ⟨x, hx, hn', ?_⟩
  rw [World.cell?_of_block (w := w) (hk.block _ (World.block_lt_of_cell? w _ hcell) (by rw [add_block]; exact hs _ (by rw [hx]; rfl)))]
  exact hcell
theorem RdO.sn {I : Nat → Prop} {own own' : Nat → Nat} {w w' : World} {j : Nat} {v : Value} {ns : List Int} (h : RdO own j w v ns) (s : Sn I own w own' w') (hj : ¬ I j) : RdO own' j w' v ns :=
  ⟨h.1.keep s.keeps (fun g hg e => hj ((h.2 g hg).2 ▸ e)), fun g hg => ⟨Nat.lt_of_lt_of_le (h.2 g hg).1 s.keeps.size, (s.agree g (h.2 g hg).1).trans (h.2 g hg).2⟩⟩

/-- one frame that waits -/
def OneL (own : Nat → Nat) (j : Nat) (w : World) (b n : Nat) (r : List Int) : Prop := r ≠ [] ∧ r.length ≤ n ∧ ∃ v, CellsO own j w b 68 [v] ∧ RdO own j w v r
theorem OneL.sn {I : Nat → Prop} {own own' : Nat → Nat} {w w' : World} {j b n : Nat} {r : List Int} (h : OneL own j w b n r) (s : Sn I own w own' w') (hj : ¬ I j) : OneL own' j w' b n r := by
  obtain ⟨h1, h2, v, h3, h4⟩ := h
  exact ⟨h1, h2, v, h3.sn s hj, h4.sn s hj⟩
/-- frames of which nothing was taken -/
def Whole (own : Nat → Nat) (j : Nat) (w : World) : List (Nat × Nat) → List (List Int) → Prop
  | [], [] => True
  | x :: q, r :: rs => OneL own j w x.1 x.2 r ∧ x.2 = r.length ∧ Whole own j w q rs
  | _, _ => False
def Laids (own : Nat → Nat) (j : Nat) (w : World) : List (Nat × Nat) → List (List Int) → Prop
  | [], [] => True
  | x :: q, r :: rs => OneL own j w x.1 x.2 r ∧ Whole own j w q rs
  | _, _ => False
theorem Whole.sn {I : Nat → Prop} {own own' : Nat → Nat} {w w' : World} {j : Nat} {q : List (Nat × Nat)} {rs : List (List Int)} (h : Whole own j w q rs) (s : Sn I own w own' w') (hj : ¬ I j) : Whole own' j w' q rs := by
  induction q generalizing rs with
  | nil => cases rs <;> trivial
  | cons x q ih =>
    cases rs with
    | nil => exact h
    | cons r rs => exact ⟨h.1.sn s hj, h.2.1, ih h.2.2⟩
theorem Laids.sn {I : Nat → Prop} {own own' : Nat → Nat} {w w' : World} {j : Nat} {q : List (Nat × Nat)} {rs : List (List Int)} (h : Laids own j w q rs) (s : Sn I own w own' w') (hj : ¬ I j) : Laids own' j w' q rs := by
  cases q with
  | nil => cases rs <;> trivial
  | cons x q =>
    cases rs with
    | nil => exact h
    | cons r rs => exact ⟨h.1.sn s hj, Whole.sn h.2 s hj⟩
theorem Whole.sum {own : Nat → Nat} {w : World} {j : Nat} {q : List (Nat × Nat)} {rs : List (List Int)} (h : Whole own j w q rs) : Flaid.sumW q = rs.flatten.length ∧ q.length = rs.length ∧ ∀ r ∈ rs, r ≠ [] := by
  induction q generalizing rs with
  | nil => cases rs with
    | nil => exact ⟨rfl, rfl, fun r hr => by cases hr⟩
    | cons r rs => exact h.elim
  | cons x q ih =>
    cases rs with
    | nil => exact h.elim
    | cons r rs =>
      obtain ⟨a, b, c⟩ := ih h.2.2
      refine ⟨?_, by simp [b], fun y hy => ?_⟩
      · rw [Flaid.sumW_cons, a, List.flatten_cons, List.length_append, h.2.1]
      · rcases List.mem_cons.1 hy with rfl | hy
        · exact h.1.1
        · exact c y hy
theorem Whole.laids {own : Nat → Nat} {w : World} {j : Nat} {q : List (Nat × Nat)} {rs : List (List Int)} (h : Whole own j w q rs) : Laids own j w q rs := by
  cases q with
  | nil => cases rs <;> trivial
  | cons x q =>
    cases rs with
    | nil => exact h
    | cons r rs => exact ⟨h.1, h.2.2⟩
theorem Whole.snoc {own : Nat → Nat} {w : World} {j : Nat} {q : List (Nat × Nat)} {rs : List (List Int)} (h : Whole own j w q rs) (b : Nat) (r : List Int) (o : OneL own j w b r.length r) : Whole own j w (q ++ [(b, r.length)]) (rs ++ [r]) := by
  induction q generalizing rs with
  | nil => cases rs with
    | nil => exact ⟨o, rfl, trivial⟩
    | cons r rs => exact h.elim
  | cons x q ih =>
    cases rs with
    | nil => exact h.elim
    | cons r' rs => exact ⟨h.1, h.2.1, ih h.2.2⟩
theorem Laids.snoc {own : Nat → Nat} {w : World} {j : Nat} {q : List (Nat × Nat)} {rs : List (List Int)} (h : Laids own j w q rs) (b : Nat) (r : List Int) (o : OneL own j w b r.length r) : Laids own j w (q ++ [(b, r.length)]) (rs ++ [r]) := by
  cases q with
  | nil => cases rs with
    | nil => exact ⟨o, trivial⟩
    | cons r rs => exact h.elim
  | cons x q =>
    cases rs with
    | nil => exact h.elim
    | cons r' rs => exact ⟨h.1, Whole.snoc h.2 b r o⟩
theorem Laids.len {own : Nat → Nat} {w : World} {j : Nat} {q : List (Nat × Nat)} {rs : List (List Int)} (h : Laids own j w q rs) : q.length = rs.length ∧ ∀ r ∈ rs, r ≠ [] := by
  cases q with
  | nil => cases rs with
    | nil => exact ⟨rfl, fun r hr => by cases hr⟩
    | cons r rs => exact h.elim
  | cons x q =>
    cases rs with
    | nil => exact h.elim
    | cons r rs =>
      obtain ⟨_, b, c⟩ := Whole.sum h.2
      refine ⟨by simp [b], fun y hy => ?_⟩
      rcases List.mem_cons.1 hy with rfl | hy
      · exact h.1.1
      · exact c y hy

abbrev maxI : Nat := 9223372036854775807

/-- a buffer: its own memory is i's, the frames' is j's; what waits of each frame; tot: no less than the frames' whole weight -/
structure BufI (own : Nat → Nat) (i j : Nat) (w : World) (p qp : Nat) (q : List (Nat × Nat)) (rs : List (List Int)) (tot : Nat) : Prop where
  box : CellsO own j w p 63 [ptr qp]
  fifo : Flaid.FifoO own i w qp maxI maxI q
  laids : Laids own j w q rs
  nodup : (q.map (·.1)).Nodup
  tot : Flaid.sumW q ≤ tot
def BufO (own : Nat → Nat) (i j : Nat) (w : World) (p : Nat) (rs : List (List Int)) (tot : Nat) : Prop := ∃ qp q, BufI own i j w p qp q rs tot

section
variable {own own' : Nat → Nat} {i j : Nat} {w w' : World} {p qp tot : Nat} {q : List (Nat × Nat)} {rs : List (List Int)} {I : Nat → Prop}

theorem BufI.sn (h : BufI own i j w p qp q rs tot) (s : Sn I own w own' w') (hi : ¬ I i) (hj : ¬ I j) : BufI own' i j w' p qp q rs tot :=
  ⟨h.box.sn s hj, Flaid.FifoO_sn h.fifo s hi, Laids.sn h.laids s hj, h.nodup, h.tot⟩
theorem BufO.sn (h : BufO own i j w p rs tot) (s : Sn I own w own' w') (hi : ¬ I i) (hj : ¬ I j) : BufO own' i j w' p rs tot := by
  obtain ⟨qp, q, h⟩ := h
  exact ⟨qp, q, h.sn s hi hj⟩
theorem BufI.quiet (h : BufI own i j w p qp q rs tot) (hk : Keeps Nowhere w w') : BufI own i j w' p qp q rs tot := h.sn (I := fun _ => False) (Sn.same hk) (fun x => x) (fun x => x)
theorem BufO.quiet (h : BufO own i j w p rs tot) (hk : Keeps Nowhere w w') : BufO own i j w' p rs tot := h.sn (I := fun _ => False) (Sn.same hk) (fun x => x) (fun x => x)
theorem BufO.ne (h : BufO own i j w p rs tot) : ∀ r ∈ rs, r ≠ [] := by
  obtain ⟨qp, q, h⟩ := h
  exact (Laids.len h.laids).2

theorem newB (w : World) (own : Nat → Nat) (i j : Nat) :
    Calls Tryd.prog 6 #[] w fun e w' => ∃ p, ∃ own', e = .returned (ptr p) ∧ Aside (BufO own' i j w' p [] 0 ∧ Sn (fun _ => False) own w own' w') := by
  have N := Aside.mk (Flaid.new_o w maxI maxI (by decide) (by decide) own i)
  go_enter Tryd.func6, Tryd.ntmps6
  go_wp2_with (go_at_call 19; refine N.it.mono ?_; rintro e w1 ⟨qp, rfl, h1, k1⟩)
  go_ret
  have ka : Keeps Nowhere w1 (w1.alloc (.cells #[ptr qp] 63)) := (Keeps.refl _ _).alloc _
  refine ⟨_, give (give own w.heap.size i) w1.heap.size j, rfl, ⟨⟨qp, [], ⟨⟨Cells.new w1 _ [ptr qp], give_new (Nat.le_refl _)⟩, (h1.it.gave j).quiet ka, trivial, List.nodup_nil, Nat.le_refl _⟩⟩, (Sn.quiet k1.it i).trans (Sn.quiet ka j)⟩⟩
theorem frames_nil (w : World) : Calls Tryd.prog 13 #[.pointer none] w fun e w' => e = .returned (.int .i64 0) ∧ w' = w := by
  go_enter Tryd.func13, Tryd.ntmps13
  go_wp2
  go_ret
  exact ⟨rfl, rfl⟩
theorem frames_i (h : BufI own i j w p qp q rs tot) : Calls Tryd.prog 13 #[ptr p] w fun e w' => e = .returned (.int .i64 rs.length) ∧ Keeps Nowhere w w' := by
  have c0 : w.cell? ⟨p, 0, none⟩ = some (ptr qp) := by rw [h.box.1.cell]; rfl
  have L := Aside.mk (Flaid.len_o h.fifo)
  rw [(Laids.len h.laids).1] at L
  clear h
  go_enter Tryd.func13, Tryd.ntmps13
  go_wp2_with (go_at_call 28; refine L.it.mono ?_; rintro e w1 ⟨rfl, k1⟩)
  go_ret
  exact ⟨rfl, k1⟩
theorem len_nilB (w : World) : Calls Tryd.prog 12 #[.pointer none] w fun e w' => e = .returned (.int .i64 0) ∧ w' = w := by
  go_enter Tryd.func12, Tryd.ntmps12
  go_wp2_with (go_at_call 13; refine (frames_nil w).mono ?_; rintro e w1 ⟨rfl, rfl⟩)
  go_ret
  exact ⟨rfl, rfl⟩
theorem RdO.shape {v : Value} {ns : List Int} (h : RdO own j w v ns) : ∃ a c, v = .slice a ns.length c := h.1.shape
end
end Go.Proofs.YtmlkhgcebmhodaaDoor
