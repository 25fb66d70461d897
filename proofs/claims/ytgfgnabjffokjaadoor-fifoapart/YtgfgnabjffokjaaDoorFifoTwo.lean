/-
  FifoApart
-/
import Derived.Test.YtgfgnabjffokjaaDoorFifoPlays
namespace Go.Proofs.YtgfgnabjffokjaaDoor
open Go.RowKit Fint

/-- a step of one play: it goes on, and the other is undisturbed -/
theorem two_step {w00 wr w6 W : World} {own own' : Nat → Nat} {i j p rt rw bq : Nat} {a n0 : Option Addr} {c n2 : Nat} {q q' : Things} {i2 j2 p2 rt2 rw2 bq2 : Nat} {a2 : Option Addr} {c2 : Nat} {q2 : Things} {xs : List Value}
    (h : PlayAt w00 own i j wr p rt rw bq a c q) (h2 : PlayAt w00 own i2 j2 wr p2 rt2 rw2 bq2 a2 c2 q2) (hi : i ≠ 0) (hj : j ≠ 0) (hi2 : i2 ≠ 0) (hj2 : j2 ≠ 0) (hii : i2 ≠ i) (hji : j2 ≠ i) (hbb : bq2 ≠ bq)
    (bo : Both own' i j w6 p rt rw (.slice n0 q'.length n2) q') (gr : Ground w00.heap.size w00 own' w6) (bx : CellsO own' 0 w6 bq 33 xs) (si : Since own i wr own' w6) (L : Nat) (hL : L = q'.length)
    (hxs : xs.length = 3) (hW : W = ((w6.setCell ⟨bq, 0, none⟩ (.int .i64 rt)).setCell ⟨bq, 1, none⟩ (.int .i64 rw)).setCell ⟨bq, 2, none⟩ (.slice n0 L n2)) :
    PlayAt w00 own' i j W p rt rw bq n0 n2 q' ∧ PlayAt w00 own' i2 j2 W p2 rt2 rw2 bq2 a2 c2 q2 := by
  subst hL
  have hkb : Keeps (fun k => k = bq) w6 W := by
    rw [hW]
    exact (((Keeps.refl (fun k => k = bq) w6).setCell ⟨bq, 0, none⟩ _ (fun _ => rfl)).setCell ⟨bq, 1, none⟩ _ (fun _ => rfl)).setCell ⟨bq, 2, none⟩ _ (fun _ => rfl)
  have hC : Cells W bq 33 [.int .i64 rt, .int .i64 rw, .slice n0 q'.length n2] := by
    rw [hW]
    have := ((bx.1.setCell 0 (.int .i64 rt)).setCell 1 (.int .i64 rw)).setCell 2 (.slice n0 q'.length n2)
    match xs, hxs with
    | [x, y, z], _ => exact this
  have g7 : Ground w00.heap.size w00 own' W := ⟨gr.zero, below_next gr.bel hkb gr.size (fun k e _ => e ▸ h.new), Nat.le_trans gr.size hkb.size⟩
  refine ⟨PlayAt.next hi hj bo gr bx h.new (hkb.mono (fun k e _ => ⟨e ▸ bx.2, e ▸ h.new⟩)) (fun _ _ => rfl) hC, ?_⟩
  have hk : Keeps (fun b => own b = i ∨ b = bq) wr W := (si.keeps.mono (fun b e _ => .inl e)).next hkb (fun b e _ => .inr e)
  have hbo : own bq = 0 := h.box.2
  obtain ⟨v, f, gn, h1, h2', h3, h4⟩ := h2.both.fifo
  have no : ∀ b, own b = i2 ∨ own b = j2 → ¬ (own b = i ∨ b = bq) := by
    rintro b hb (e | e)
    · rcases hb with hb | hb
      · exact hii (hb.symm.trans e)
      · exact hji (hb.symm.trans e)
    · subst e
      rcases hb with hb | hb
      · exact hi2 (hb.symm.trans hbo)
      · exact hj2 (hb.symm.trans hbo)
  refine ⟨⟨⟨v, f, gn, h1.later hk ?_, h2', (si.agree p2 (h1.lt p2 (.inl rfl))).trans h3, fun b e => (si.agree b (h1.lt b (.inr e))).trans (h4 b e)⟩, h2.both.reads.later hk (fun b e => no b (.inr (h2.both.refo b e).1)), fun b e => ⟨(si.agree b (h2.both.refo b e).2).trans (h2.both.refo b e).1, Nat.lt_of_lt_of_le (h2.both.refo b e).2 hk.size⟩⟩, g7, ⟨h2.box.1.later hk ?_, (si.agree bq2 h2.box.1.lt).trans h2.box.2⟩, h2.new⟩
  · rintro b (rfl | e)
    · exact no b (.inl h3)
    · exact no b (.inl (h4 b e))
  · rintro (e | e)
    · exact hi (e.symm.trans h2.box.2)
    · exact hbb e
end Go.Proofs.YtgfgnabjffokjaaDoor
