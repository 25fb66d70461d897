/-
  culvertlaw02's World within a call: the program's rings hold L, the document's hold M
-/
import Derived.Test.YtkmijhfimkcoiaaDoorRingPlay
import Derived.Test.YtkmijhfimkcoiaaDoorRingHint
namespace Go.Proofs.YtkmijhfimkcoiaaDoor
open Go.RowKit Rint

structure Play2 (B : Nat) (w0 : World) (X : Nat → TypeId → List Value → Prop) (p : Nat) (R : Nat → Value) (C D : Nat → Nat) (L M : Nat → List Int) (V : Nat → Value) (own : Nat → Nat) (w : World) : Prop where
  ground : Ground B w0 own w
  cells : CellsO own 7 w p 39 (wcells R D V)
  ring : ∀ i, i < 4 → RingO own (10 + i) w (R i) (C i) (iv (L i))
  row : ∀ i, i < 4 → ReadsO own (20 + i) w (V i) (iv (M i))
  kept : ∀ g e cs, X g e cs → CellsO own 30 w g e cs

variable {B : Nat} {X : Nat → TypeId → List Value → Prop} {w0 w w' : World} {p : Nat} {R : Nat → Value} {C D : Nat → Nat} {L M : Nat → List Int} {V : Nat → Value} {own : Nat → Nat}

theorem PlayAt.two (h : PlayAt B w0 X p R C L V own w) : Play2 B w0 X p R C C L L V own w := ⟨h.ground, h.cells, h.ring, h.row, h.kept⟩
theorem Play2.one (h : Play2 B w0 X p R C C L L V own w) : PlayAt B w0 X p R C L V own w := ⟨h.ground, h.cells, h.ring, h.row, h.kept⟩
theorem Play2.quiet (h : Play2 B w0 X p R C D L M V own w) (hk : Keeps Nowhere w w') : Play2 B w0 X p R C D L M V own w' :=
  ⟨h.ground.quiet hk, h.cells.quiet hk, fun i hi => (h.ring i hi).quiet hk, fun i hi => (h.row i hi).quiet hk, fun g e cs hx => (h.kept g e cs hx).quiet hk⟩
theorem nowhere_any {j : Nat} (hk : Keeps Nowhere w w') : Keeps (fun k => own k = j) w w' := hk.any
theorem Play2.fresh (h : Play2 B w0 X p R C D L M V own w) (hk : Keeps Nowhere w w') (r : Nat) : Play2 B w0 X p R C D L M V (give own w.heap.size r) w' := by
  refine ⟨(h.ground.quiet hk).give _ _ h.ground.size, keepO (i := 0) h.cells (nowhere_any hk) (by decide) (fun k hk => give_old hk), fun i hi => RingO.fresh (h.ring i hi) hk r, fun i hi => ?_, fun g e cs hx => keepO (i := 0) (h.kept g e cs hx) (nowhere_any hk) (by decide) (fun k hk => give_old hk)⟩
  exact (h.row i hi).others (i := 0) (nowhere_any hk) (by omega) (fun k hk => give_old hk)
/-- new memory is read as the owner's to whom it is given -/
theorem fresh_reads {v : Value} {xs : List Value} (r : Nat) (hr : ReadsOff (fun k => k < w.heap.size) w' v xs) (hn : NilOk v) : ReadsO (give own w.heap.size r) r w' v xs := by
  refine ⟨hr.mono (fun k h _ => ?_), hn⟩
  rcases Nat.lt_or_ge k w.heap.size with h' | h'
  · exact h'
  · exact absurd (give_new h') h
/-- the document's ring i is stored anew -/
theorem Play2.setModel (h : Play2 B w0 X p R C D L M V own w) (i : Nat) (hi : i < 4) (d : Nat) (v : Value) (l : List Int) (hv : ReadsO own (20 + i) w v (iv l)) :
    Play2 B w0 X p R C (upd D i d) L (upd M i l) (upd V i v) own ((w.setCell ⟨p, 4 + i * 2, none⟩ (.int .i64 d)).setCell ⟨p, 4 + i * 2 + 1, none⟩ v) := by
  have hk : Keeps (fun k => own k = 7) w ((w.setCell ⟨p, 4 + i * 2, none⟩ (.int .i64 d)).setCell ⟨p, 4 + i * 2 + 1, none⟩ v) :=
    ((Keeps.refl _ _).setCell _ _ (fun _ => h.cells.2)).setCell _ _ (fun _ => h.cells.2)
  have hsz : ((w.setCell ⟨p, 4 + i * 2, none⟩ (.int .i64 d)).setCell ⟨p, 4 + i * 2 + 1, none⟩ v).heap.size = w.heap.size := by simp [World.setCell]
  have hc : Cells ((w.setCell ⟨p, 4 + i * 2, none⟩ (.int .i64 d)).setCell ⟨p, 4 + i * 2 + 1, none⟩ v) p 39 (wcells R (upd D i d) (upd V i v)) := by
    rw [← wcells_model R D V i hi d v]
    exact (h.cells.1.setCell _ _).setCell _ _
  refine ⟨⟨h.ground.zero, ?_, by rw [hsz]; exact h.ground.size⟩, ⟨hc, h.cells.2⟩, fun j hj => ?_, fun j hj => ?_, fun g e cs hx => keepO (h.kept g e cs hx) hk (by decide) (fun _ _ => rfl)⟩
  · refine below_next h.ground.bel hk h.ground.size (fun k e _ => ?_)
    rcases Nat.lt_or_ge k B with hlt | hge
    · have := h.ground.zero k hlt; omega
    · exact hge
  · exact ((h.ring j hj).later hk (fun k e _ e' => by omega)).mono (fun k e _ => e.1)
  · by_cases hji : j = i
    · subst hji
      rw [upd_same, upd_same]
      exact hv.others hk (by omega) (fun _ _ => rfl)
    · rw [upd_other _ _ _ _ hji, upd_other _ _ _ _ hji]
      exact (h.row j hj).others hk (by omega) (fun _ _ => rfl)
/-- the program's ring i is stored anew -/
theorem Play2.setRing (h : Play2 B w0 X p R C D L M V own w) (i : Nat) (hi : i < 4) (r : Value) (c : Nat) (l : List Int) (hr : RingO own (10 + i) w r c (iv l)) :
    Play2 B w0 X p (upd R i r) (upd C i c) D (upd L i l) M V own (w.setCell ⟨p, i, none⟩ r) := by
  have hk : Keeps (fun k => own k = 7) w (w.setCell ⟨p, i, none⟩ r) := (Keeps.refl _ _).setCell _ _ (fun _ => h.cells.2)
  have hsz : (w.setCell ⟨p, i, none⟩ r).heap.size = w.heap.size := by simp [World.setCell]
  have hc : Cells (w.setCell ⟨p, i, none⟩ r) p 39 (wcells (upd R i r) D V) := by
    rw [← wcells_ring R D V i hi r]
    exact h.cells.1.setCell _ _
  refine ⟨⟨h.ground.zero, ?_, by rw [hsz]; exact h.ground.size⟩, ⟨hc, h.cells.2⟩, fun j hj => ?_, fun j hj => (h.row j hj).others hk (by omega) (fun _ _ => rfl), fun g e cs hx => keepO (h.kept g e cs hx) hk (by decide) (fun _ _ => rfl)⟩
  · refine below_next h.ground.bel hk h.ground.size (fun k e _ => ?_)
    rcases Nat.lt_or_ge k B with hlt | hge
    · have := h.ground.zero k hlt; omega
    · exact hge
  · by_cases hji : j = i
    · subst hji
      rw [upd_same, upd_same, upd_same]
      exact (hr.later hk (fun k e _ e' => by omega)).mono (fun k e _ => e.1)
    · rw [upd_other _ _ _ _ hji, upd_other _ _ _ _ hji, upd_other _ _ _ _ hji]
      exact ((h.ring j hj).later hk (fun k e _ e' => by omega)).mono (fun k e _ => e.1)
/-- a call on ring i has left it so -/
theorem Play2.step (h : Play2 B w0 X p R C D L M V own w) (i : Nat) (hi : i < 4) (l : List Int) (own' : Nat → Nat) (ho : ∀ k, k < w.heap.size → own' k = own k) (hr : RingO own' (10 + i) w' (R i) (C i) (iv l)) (hk : Keeps (fun k => own k = 10 + i) w w') :
    Play2 B w0 X p R C D (upd L i l) M V own' w' := by
  refine ⟨⟨fun k hlt => (ho k (by have := h.ground.size; omega)).trans (h.ground.zero k hlt), ?_, Nat.le_trans h.ground.size hk.size⟩, keepO h.cells hk (by omega) ho, fun j hj => ?_, fun j hj => (h.row j hj).others hk (by omega) ho, fun g e cs hx => keepO (h.kept g e cs hx) hk (by omega) ho⟩
  · refine below_next h.ground.bel hk h.ground.size (fun k e _ => ?_)
    rcases Nat.lt_or_ge k B with hlt | hge
    · have := h.ground.zero k hlt; omega
    · exact hge
  · by_cases hji : j = i
    · subst hji
      rw [upd_same]
      exact hr
    · rw [upd_other _ _ _ _ hji]
      exact ((h.ring j hj).later hk (fun k e _ e' => by omega)).mono (fun k e _ => (ho k e.2).trans e.1)

theorem p2_push (h : Play2 B w0 X p R C D L M V own w) (i : Nat) (hi : i < 4) (src : Value) (xs : List Int) (hx : ReadsOff (fun k => own k = 10 + i) w src (iv xs)) (hl : xs.length ≤ 9223372036854775807) :
    Calls Tryd.prog 8 #[R i, src] w fun e w' => e = .returned (.int .i64 (Nat.min xs.length (C i - (L i).length) : Nat)) ∧ Play2 B w0 X p R C D (upd L i (L i ++ xs.take (C i - (L i).length))) M V (give own w.heap.size (10 + i)) w' := by
  refine (pushV (h.ring i hi) src (iv xs) hx (by rw [iv_length]; exact hl) (iv_one xs)).mono ?_
  rintro e w' ⟨rfl, hr, hk⟩
  rw [iv_length, iv_length]
  rw [iv_take, iv_append, iv_length] at hr
  exact ⟨rfl, h.step i hi _ _ (fun _ h => give_old h) (RingO.mine0 hr) hk⟩
theorem p2_drop (h : Play2 B w0 X p R C D L M V own w) (i : Nat) (hi : i < 4) (m : Int) :
    Calls Tryd.prog 21 #[R i, .int .i64 m] w fun e w' => e = .returned (.int .i64 (Nat.min m.toNat (L i).length : Nat)) ∧ Play2 B w0 X p R C D (upd L i ((L i).drop m.toNat)) M V (give own w.heap.size (10 + i)) w' := by
  refine (dropV (h.ring i hi) m).mono ?_
  rintro e w' ⟨rfl, hr, hk⟩
  rw [iv_length]
  rw [iv_drop] at hr
  exact ⟨rfl, h.step i hi _ _ (fun _ h => give_old h) (RingO.mine0 hr) hk⟩
theorem p2_clear (h : Play2 B w0 X p R C D L M V own w) (i : Nat) (hi : i < 4) :
    Calls Tryd.prog 22 #[R i] w fun e w' => e = .returned (.int .i64 (L i).length) ∧ Play2 B w0 X p R C D (upd L i []) M V (give own w.heap.size (10 + i)) w' := by
  refine (clearV (h.ring i hi)).mono ?_
  rintro e w' ⟨rfl, hr, hk⟩
  rw [iv_length]
  exact ⟨rfl, h.step i hi _ _ (fun _ h => give_old h) (RingO.mine0 hr) hk⟩
theorem p2_pop (h : Play2 B w0 X p R C D L M V own w) (i : Nat) (hi : i < 4) (m : Int) :
    Calls Tryd.prog 13 #[R i, .int .i64 m] w fun e w' => ∃ s own', e = .returned s ∧ RowAt w' 3 s (iv ((L i).take m.toNat)) ∧ Play2 B w0 X p R C D (upd L i ((L i).drop m.toNat)) M V own' w' ∧ Keeps (fun k => own k = 10 + i) w w' := by
  refine (popV (h.ring i hi) m).mono ?_
  rintro e w' ⟨s, z, rfl, hs, hz1, hz2, hfr, hr, hk⟩
  rw [iv_drop] at hr
  rw [iv_take] at hs
  exact ⟨s, give (give own w.heap.size 3) z (10 + i), rfl, hs, h.step i hi _ _ (fun k hlt => by rw [give_old (by omega), give_old hlt]) (RingO.mine hr 3 hz1) hk, hk⟩
end Go.Proofs.YtkmijhfimkcoiaaDoor
