/-
  package fifo at pair: dropHead, Get
-/
import Derived.Test.YtnljgklmaljfjaaDoorFpBpair
namespace Go.Proofs.YtnljgklmaljfjaaDoor.Fpair
open Go.RowKit

variable {w w' : World} {p rt rw : Nat} {q : List (El × Nat)} {v : Value} {first : Nat} {gone : List Value}

/-- the cells of a thing that has gone -/
abbrev zeros : List Value := [.string ⟨#[]⟩, .int .i64 0, .int .i64 0]

theorem set_zeros (gone : List Value) (x : El × Nat) (r : List Value) (n : Nat) (hn : gone.length = n) : ((((gone ++ (fl x ++ r)).set n (.string ⟨#[]⟩)).set (n + 1) (.int .i64 0)).set (n + 2) (.int .i64 0)) = (gone ++ zeros) ++ r := by
  subst hn
  simp [fl, enc, zeros]

set_option maxHeartbeats 1000000 in
theorem drop_in (x : El × Nat) (h : FifoIn w p rt rw (x :: q) v first gone) (hb : (first + q.length + 1) * by' ≤ 140737488355328) (hh : first ≤ q.length + 1) :
    Calls Tryd.prog 34 #[.pointer (some ⟨p, 0, none⟩), .int .i64 x.2] w fun e w' => e = .returned (.tuple #[]) ∧
      ∃ v' first' gone', Aside (FifoIn w' p rt rw q v' first' gone') ∧ Aside (first' ≤ q.length ∧ first' ≤ first + 1) ∧ Aside (∀ k, v'.ownBlock = some k → v.ownBlock = some k ∨ w.heap.size ≤ k) ∧ Aside (Keeps (Own p v) w w') := by
  obtain ⟨g, cap, rfl, hcap, hc⟩ := h.place 0 x rfl
  have c2 : w.cell? ⟨p, 2, none⟩ = some (.slice (some ⟨g, 0, none⟩) (first + (x :: q).length) cap) := by rw [h.cells.cell]; rfl
  have c3 : w.cell? ⟨p, 3, none⟩ = some (.int .i64 first) := by rw [h.cells.cell]; rfl
  have c4 : w.cell? ⟨p, 4, none⟩ = some (.int .i64 (sumW (x :: q))) := by rw [h.cells.cell]; rfl
  have e0 : w.cell? ⟨g, first * 3, none⟩ = some (.string (txt x.1)) := hc 0 (by decide)
  have e1 : w.cell? ⟨g, first * 3 + 1, none⟩ = some (.int .i64 x.1) := hc 1 (by decide)
  have e2 : w.cell? ⟨g, first * 3 + 2, none⟩ = some (.int .i64 x.2) := hc 2 (by decide)
  have f2 := h.cells.frozen 2
  have f3 := h.cells.frozen 3
  have f4 := h.cells.frozen 4
  have g0 := owns_frozen h.row (first * 3)
  have g1 := owns_frozen h.row (first * 3 + 1)
  have g2 := owns_frozen h.row (first * 3 + 2)
  have hgp : g ≠ p := fun e => h.ne (by rw [e]; rfl)
  have hgp' : p ≠ g := fun e => hgp e.symm
  have hs := h.small
  have hw := h.weight
  have hw2 := h.rw63
  rw [sumW_cons] at c4 hw
  have HH : Aside _ := ⟨h⟩
  clear h hc
  obtain ⟨m, hm⟩ : ∃ m, m = q.length := ⟨_, rfl⟩
  obtain ⟨s, hs'⟩ : ∃ s, s = sumW q := ⟨_, rfl⟩
  rw [List.length_cons, ← hm] at c2 hcap hs
  rw [← hs'] at c4 hw
  have HM : Aside _ := ⟨hm⟩
  have HS : Aside _ := ⟨hs'⟩
  rw [← hm] at hb hh
  clear hm hs'
  have hi1 : (0 : Int) ≤ first := by omega
  have hi2 : (first : Int) < (first : Int) + ((m : Int) + 1) := by omega
  have hi3 : (first : Int) + 1 ≤ 9223372036854775807 := by omega
  have hi4 : (x.2 : Int) + s - x.2 = s := by omega
  go_enter Tryd.func34, Tryd.ntmps34
  go_wp2_with fail
  go_region
  go_upto_region 3 with fail
  obtain ⟨w2, hw2'⟩ : ∃ w2, w2 = (((((w.setCell ⟨g, first * 3, none⟩ (.string ⟨#[]⟩)).setCell ⟨g, first * 3 + 1, none⟩ (.int .i64 0)).setCell ⟨g, first * 3 + 2, none⟩ (.int .i64 0)).setCell ⟨p, 3, none⟩ (.int .i64 ((first : Int) + 1))).setCell ⟨p, 4, none⟩ (.int .i64 s)).drew := ⟨_, rfl⟩
  rw [← hw2']
  have hn1 : first * 3 + 2 < (first + (m + 1)) * 3 := by omega
  have R2 : w2.ownsRow 0 81 (sz + 1) (.slice (some ⟨g, 0, none⟩) (first + (x :: q).length) cap) ((first + 1) + q.length) ((gone ++ zeros) ++ flat q) := by
    have h1 := owns_setCell HH.it.row (first * 3) (by rw [List.length_cons, ← HM.it]; show _ < _ * 3; omega) (.string ⟨#[]⟩)
    have h2 := owns_setCell h1 (first * 3 + 1) (by rw [List.length_cons, ← HM.it]; show _ < _ * 3; omega) (.int .i64 0)
    have h2 := owns_setCell h2 (first * 3 + 2) (by rw [List.length_cons, ← HM.it]; show _ < _ * 3; omega) (.int .i64 0)
    rw [flat_cons, set_zeros gone x (flat q) (first * 3) HH.it.glen] at h2
    rw [List.length_cons, show first + (q.length + 1) = first + 1 + q.length by omega] at h2 ⊢
    rw [hw2']
    exact owns_later (S := fun k => k = p) h2 (((Keeps.refl (fun k => k = p) _).setCell ⟨p, 3, none⟩ (.int .i64 ((first : Int) + 1)) (fun _ => rfl)).setCell ⟨p, 4, none⟩ (.int .i64 s) (fun _ => rfl)).drew (fun b hb e => by
      simp only [Value.ownBlock, Option.some.injEq] at hb
      exact hgp (hb.trans e))
  have F2 : FifoIn w2 p rt rw q (.slice (some ⟨g, 0, none⟩) (first + (x :: q).length) cap) (first + 1) (gone ++ zeros) := by
    refine ⟨?_, R2, ?_, ?_, ?_, HH.it.rt63, HH.it.rw63⟩
    · have h := ((((HH.it.cells.setOther ⟨g, first * 3, none⟩ (.string ⟨#[]⟩) hgp').setOther ⟨g, first * 3 + 1, none⟩ (.int .i64 0) hgp').setOther ⟨g, first * 3 + 2, none⟩ (.int .i64 0) hgp').setCell 3 (.int .i64 ((first : Int) + 1))).setCell 4 (.int .i64 s)
      rw [HS.it] at h
      rw [hw2', HS.it]
      exact h
    · rw [List.length_append, HH.it.glen, Nat.succ_mul]; rfl
    · have := HH.it.things
      simp only [List.length_cons] at this
      omega
    · have := HH.it.weight
      rw [sumW_cons] at this
      omega
  have K2 : Aside (Keeps (Own p (.slice (some ⟨g, 0, none⟩) (first + (x :: q).length) cap)) w w2) := ⟨by
    rw [hw2']
    exact ((((((Keeps.refl _ w).setCell ⟨g, first * 3, none⟩ _ (fun _ => .inr rfl)).setCell ⟨g, first * 3 + 1, none⟩ _ (fun _ => .inr rfl)).setCell ⟨g, first * 3 + 2, none⟩ _ (fun _ => .inr rfl)).setCell ⟨p, 3, none⟩ _ (fun _ => .inl rfl)).setCell ⟨p, 4, none⟩ _ (fun _ => .inl rfl)).drew⟩
  have G2 : Aside _ := ⟨F2⟩
  have d2 : w2.cell? ⟨p, 2, none⟩ = some (.slice (some ⟨g, 0, none⟩) (first + (x :: q).length) cap) := by rw [F2.cells.cell]; rfl
  have d3 : w2.cell? ⟨p, 3, none⟩ = some (.int .i64 ((first : Int) + 1)) := by rw [F2.cells.cell]; rfl
  have CP := hide (fun n => copied_in (F2.drewN n) (by simp only [by'] at hb ⊢; have := HM.it; omega))
  obtain ⟨N, hN⟩ : ∃ N, N = first + (m + 1) := ⟨_, rfl⟩
  rw [List.length_cons, ← HM.it, ← hN] at d2
  have hNs : N ≤ 9223372036854775807 := by omega
  have W2 : Aside _ := ⟨hw2'⟩
  have HN : Aside _ := ⟨hN⟩
  clear hw2' R2 F2 c2 c3 c4 e0 e1 e2 f2 f3 f4 g0 g1 g2 hN hi4
  by_cases ht : first + 1 ≤ N / 2
  · have ht' : ((first : Int) + 1) ≤ (N : Int) / 2 := by omega
    have HT : Aside _ := ⟨ht⟩
    clear CP ht hb hh hs hcap hw hi1 hi2 hi3 hn1
    go_quiet (fail)
    go_wp2
    go_end0
    refine ⟨rfl, _, _, _, ⟨G2.it.drewN _⟩, ⟨by have := HN.it; have := HM.it; have := HT.it; omega, Nat.le_refl _⟩, ⟨fun k hk => .inl hk⟩, ⟨?_⟩⟩
    exact K2.it.drewN _
  · have ht' : (N : Int) / 2 < ((first : Int) + 1) := by omega
    have HB : Aside _ := ⟨hb⟩
    clear ht hb hh hs hcap hw hi1 hi2 hi3 hn1
    go_quiet (fail)
    go_wp2_with fail
    refine (CP.out nq).mono ?_
    rintro e w3 ⟨v2, rfl, o3, k3⟩
    obtain ⟨x0, x1, x2, hx⟩ := owns_shapeK o3.it
    subst hx
    have C3 := G2.it.cells.later (((Keeps.refl _ _).drewN nq).trans k3.it) (fun x => x)
    have f2 := C3.frozen 2
    have f3 := C3.frozen 3
    have g2 : w3.cell? ⟨p, 2, none⟩ = some (.slice (some ⟨g, 0, none⟩) (first + (x :: q).length) cap) := by rw [C3.cell]; rfl
    have g3 : w3.cell? ⟨p, 3, none⟩ = some (.int .i64 ((first : Int) + 1)) := by rw [C3.cell]; rfl
    have C3' : Aside _ := ⟨C3⟩
    clear C3 d2 d3
    go_wp2
    go_end0
    have hne : (Value.slice x0 x1 x2).ownBlock ≠ some p := owns_ne o3.it C3'.it (by decide)
    have hsz : w.heap.size ≤ w2.heap.size := K2.it.size
    refine ⟨rfl, .slice x0 x1 x2, 0, [], ⟨⟨?_, ?_, rfl, G2.it.things, G2.it.weight, HH.it.rt63, HH.it.rw63⟩⟩, ⟨Nat.zero_le _, Nat.zero_le _⟩, ⟨fun k hk => .inr (Nat.le_trans hsz (owns_base o3.it k hk))⟩, ⟨?_⟩⟩
    · exact (C3'.it.setCell 2 (.slice x0 x1 x2)).setCell 3 (.int .i64 0)
    · have h := owns_later (S := fun k => k = p) (owns_any o3.it) (((Keeps.refl (fun k => k = p) w3).setCell ⟨p, 2, none⟩ (.slice x0 x1 x2) (fun _ => rfl)).setCell ⟨p, 3, none⟩ (.int .i64 0) (fun _ => rfl)) (fun b hb e => hne (e ▸ hb))
      rw [Nat.zero_add, List.nil_append]
      exact h
    · exact ((K2.it.trans (((Keeps.refl _ w2).drewN nq).trans k3.it).any).setCell ⟨p, 2, none⟩ _ (fun _ => .inl rfl)).setCell ⟨p, 3, none⟩ _ (fun _ => .inl rfl)
theorem get_none (x : Value) (w : World) (H : Hid (∀ W, Keeps Nowhere w W → Calls Tryd.prog 18 #[x] W fun e w' => e = .returned (.tuple #[.agg #[.string ⟨#[]⟩, .int .i64 0], .int .i64 0, .bool false]) ∧ Keeps Nowhere W w')) :
    Calls Tryd.prog 13 #[x] w fun e w' => e = .returned (.tuple #[.agg #[.string ⟨#[]⟩, .int .i64 0], .int .i64 0, .bool false]) ∧ Keeps Nowhere w w' := by
  go_enter Tryd.func13, Tryd.ntmps13
  go_wp2_with fail
  refine (H.out _ ((Keeps.refl _ _).alloc _)).mono ?_
  rintro e w1 ⟨rfl, hk⟩
  have ck := (Cells.new w 32 [.string ⟨#[]⟩, .int .i64 0]).later hk (fun x => x)
  have cl := ck.later ((Keeps.refl Nowhere w1).alloc (.cells #[.string ⟨#[]⟩, .int .i64 0] 32)) (fun x => x)
  have z0 : (w1.alloc (.cells #[.string ⟨#[]⟩, .int .i64 0] 32)).cell? ⟨w.heap.size, 0, none⟩ = some (.string ⟨#[]⟩) := by rw [cl.cell]; rfl
  have z1 : (w1.alloc (.cells #[.string ⟨#[]⟩, .int .i64 0] 32)).cell? ⟨w.heap.size, 1, none⟩ = some (.int .i64 0) := by rw [cl.cell]; rfl
  have y0 := cl.frozen 0
  have y1 := cl.frozen 1
  have q0 : ((w1.alloc (.cells #[.string ⟨#[]⟩, .int .i64 0] 32)).setCell ⟨w.heap.size, 0, none⟩ (.string ⟨#[]⟩)).cell? ⟨w.heap.size, 0, none⟩ = some (.string ⟨#[]⟩) := by rw [(cl.setCell 0 _).cell]; rfl
  have q1 : (((w1.alloc (.cells #[.string ⟨#[]⟩, .int .i64 0] 32)).setCell ⟨w.heap.size, 0, none⟩ (.string ⟨#[]⟩)).setCell ⟨w.heap.size, 1, none⟩ (.int .i64 0)).cell? ⟨w.heap.size, 1, none⟩ = some (.int .i64 0) := by rw [((cl.setCell 0 _).setCell 1 _).cell]; rfl
  clear ck cl
  go_wp2
  refine bodyPost_ret (v := .tuple #[.agg #[.string ⟨#[]⟩, .int .i64 0], .int .i64 0, .bool false]) (by simp [results, Tryd.results13, go_sem, q0, q1]) rfl ?_
  exact ⟨rfl, (((((Keeps.refl Nowhere w).alloc _).trans hk).alloc _).setCell _ _ (fun h => absurd h (Nat.lt_irrefl _))).setCell _ _ (fun h => absurd h (Nat.lt_irrefl _))⟩
theorem get_nil (w : World) : Calls Tryd.prog 13 #[.pointer none] w fun e w' => e = .returned (.tuple #[.agg #[.string ⟨#[]⟩, .int .i64 0], .int .i64 0, .bool false]) ∧ Keeps Nowhere w w' := get_none _ w (hide (fun _ _ => head_nil _))
theorem get_empty (h : FifoIn w p rt rw [] v first gone) : Calls Tryd.prog 13 #[.pointer (some ⟨p, 0, none⟩)] w fun e w' => e = .returned (.tuple #[.agg #[.string ⟨#[]⟩, .int .i64 0], .int .i64 0, .bool false]) ∧ Keeps Nowhere w w' := get_none _ w (hide (fun _ hk => head_empty (h.later hk (fun _ _ x => x))))
theorem get_in (x : El × Nat) (h : FifoIn w p rt rw (x :: q) v first gone) (hb : (first + q.length + 1) * by' ≤ 140737488355328) (hh : first ≤ q.length + 1) :
    Calls Tryd.prog 13 #[.pointer (some ⟨p, 0, none⟩)] w fun e w' => e = .returned (.tuple #[.agg #[.string (txt x.1), .int .i64 x.1], .int .i64 x.2, .bool true]) ∧
      ∃ v' first' gone', Aside (FifoIn w' p rt rw q v' first' gone') ∧ Aside (first' ≤ q.length ∧ first' ≤ first + 1) ∧ Aside (∀ k, v'.ownBlock = some k → v.ownBlock = some k ∨ w.heap.size ≤ k) ∧ Aside (Keeps (Own p v) w w') := by
  have H := hide (fun W (hk : Keeps Nowhere w W) => head_in x (h.later hk (fun _ _ x => x)))
  have D : Aside _ := ⟨fun w1 (hk : Keeps Nowhere w w1) => drop_in x (h.later hk (fun _ _ x => x)) hb hh⟩
  have HLt := Aside.mk (fun k (e : Own p v k) => h.lt k e)
  clear h hb hh
  go_enter Tryd.func13, Tryd.ntmps13
  go_wp2_with fail
  refine (H.out _ ((Keeps.refl _ _).alloc _)).mono ?_
  rintro e w1 ⟨rfl, hk⟩
  have ck := (Cells.new w 32 [.string ⟨#[]⟩, .int .i64 0]).later hk (fun x => x)
  have CK := Aside.mk ck
  have HK := Aside.mk (((Keeps.refl Nowhere w).alloc (.cells #[.string ⟨#[]⟩, .int .i64 0] 32)).trans hk)
  clear hk ck
  go_wp2_with fail
  obtain ⟨W1, hW1⟩ : ∃ W1, W1 = w1.alloc (.cells #[.string (txt x.1), .int .i64 x.1] 32) := ⟨_, rfl⟩
  have K1 : Aside (Keeps Nowhere w1 W1) := ⟨by rw [hW1]; exact (Keeps.refl _ _).alloc _⟩
  have L1 : Aside (Cells W1 w1.heap.size 32 [.string (txt x.1), .int .i64 x.1]) := ⟨by rw [hW1]; exact Cells.new w1 _ _⟩
  rw [← hW1]
  have hw1 : Aside (w.heap.size < w1.heap.size ∧ w1.heap.size ≤ W1.heap.size) := ⟨CK.it.lt, K1.it.size⟩
  clear hW1
  refine (D.it W1 (HK.it.trans K1.it)).mono ?_
  rintro e w2 ⟨rfl, v', f', g', h1, h2, h3, h4⟩
  have nr : ¬ Own p v w.heap.size := fun e => Nat.lt_irrefl _ (HLt.it _ e)
  have nl : ¬ Own p v w1.heap.size := fun e => by have := HLt.it _ e; have := hw1.it.1; omega
  have cl := (CK.it.later K1.it (fun x => x)).later h4.it nr
  have c2 := L1.it.later h4.it nl
  have l0 : w2.cell? ⟨w1.heap.size, 0, none⟩ = some (.string (txt x.1)) := by rw [c2.cell]; rfl
  have l1 : w2.cell? ⟨w1.heap.size, 1, none⟩ = some (.int .i64 x.1) := by rw [c2.cell]; rfl
  have z0 : w2.cell? ⟨w.heap.size, 0, none⟩ = some (.string ⟨#[]⟩) := by rw [cl.cell]; rfl
  have z1 : w2.cell? ⟨w.heap.size, 1, none⟩ = some (.int .i64 0) := by rw [cl.cell]; rfl
  have y0 := cl.frozen 0
  have y1 := cl.frozen 1
  have q0 : (w2.setCell ⟨w.heap.size, 0, none⟩ (.string (txt x.1))).cell? ⟨w.heap.size, 0, none⟩ = some (.string (txt x.1)) := by rw [(cl.setCell 0 _).cell]; rfl
  have q1 : ((w2.setCell ⟨w.heap.size, 0, none⟩ (.string (txt x.1))).setCell ⟨w.heap.size, 1, none⟩ (.int .i64 x.1)).cell? ⟨w.heap.size, 1, none⟩ = some (.int .i64 x.1) := by rw [((cl.setCell 0 _).setCell 1 _).cell]; rfl
  clear cl c2 nl
  go_wp2
  refine bodyPost_ret (v := .tuple #[.agg #[.string (txt x.1), .int .i64 x.1], .int .i64 x.2, .bool true]) (by simp [results, Tryd.results13, go_sem, q0, q1]) rfl ?_
  have ke : Keeps (fun k => k = w.heap.size) w2 ((w2.setCell ⟨w.heap.size, 0, none⟩ (.string (txt x.1))).setCell ⟨w.heap.size, 1, none⟩ (.int .i64 x.1)) := ((Keeps.refl (fun k => k = w.heap.size) w2).setCell _ _ (fun _ => rfl)).setCell _ _ (fun _ => rfl)
  have nv : ∀ k, Own p v' k → ¬ k = w.heap.size := by
    rintro k (rfl | e) e2
    · exact nr (.inl e2.symm)
    · rcases h3.it k e with h | h
      · exact nr (.inr (by rw [← e2]; exact h))
      · have := hw1.it; omega
  refine ⟨rfl, v', f', g', ⟨h1.it.later ke nv⟩, h2, ⟨fun k hk => (h3.it k hk).imp id (fun h => by have := hw1.it; omega)⟩, ⟨?_⟩⟩
  exact (((HK.it.trans K1.it).any.trans h4.it).setCell _ _ (fun h => absurd h (Nat.lt_irrefl _))).setCell _ _ (fun h => absurd h (Nat.lt_irrefl _))
end Go.Proofs.YtnljgklmaljfjaaDoor.Fpair
