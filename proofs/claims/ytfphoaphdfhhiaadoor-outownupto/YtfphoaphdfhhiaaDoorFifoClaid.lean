/-
  package fifo at laid: dropHead, Get
-/
import Derived.Test.YtfphoaphdfhhiaaDoorFifoBlaid
namespace Go.Proofs.YtfphoaphdfhhiaaDoor.Flaid
open Go.RowKit

variable {w w' : World} {p rt rw : Nat} {q : List (El × Nat)} {v : Value} {first : Nat} {gone : List Value}

/-- the cells of a thing that has gone -/
abbrev zeros : List Value := [.pointer none, .int .i64 0]

theorem set_zeros (gone : List Value) (x : El × Nat) (r : List Value) (n : Nat) (hn : gone.length = n) : (((gone ++ (fl x ++ r)).set n (.pointer none)).set (n + 1) (.int .i64 0)) = (gone ++ zeros) ++ r := by
  subst hn
  simp [fl, enc, zeros]

theorem drop_in (x : El × Nat) (h : FifoIn w p rt rw (x :: q) v first gone) (hb : (first + q.length + 1) * by' ≤ 140737488355328) (hh : first ≤ q.length + 1) :
    Calls Tryd.prog 38 #[.pointer (some ⟨p, 0, none⟩), .int .i64 x.2] w fun e w' => e = .returned (.tuple #[]) ∧
      ∃ v' first' gone', Aside (FifoIn w' p rt rw q v' first' gone') ∧ Aside (first' ≤ q.length ∧ first' ≤ first + 1) ∧ Aside (∀ k, v'.ownBlock = some k → v.ownBlock = some k ∨ w.heap.size ≤ k) ∧ Aside (Keeps (Own p v) w w') := by
  obtain ⟨g, cap, rfl, hcap, hc⟩ := h.place 0 x rfl
  have c2 : w.cell? ⟨p, 2, none⟩ = some (.slice (some ⟨g, 0, none⟩) (first + (x :: q).length) cap) := by rw [h.cells.cell]; rfl
  have c3 : w.cell? ⟨p, 3, none⟩ = some (.int .i64 first) := by rw [h.cells.cell]; rfl
  have c4 : w.cell? ⟨p, 4, none⟩ = some (.int .i64 (sumW (x :: q))) := by rw [h.cells.cell]; rfl
  have e0 : w.cell? ⟨g, first * 2, none⟩ = some (.pointer (some ⟨x.1, 0, none⟩)) := hc 0 (by decide)
  have e1 : w.cell? ⟨g, first * 2 + 1, none⟩ = some (.int .i64 x.2) := hc 1 (by decide)
  have f2 := h.cells.frozen 2
  have f3 := h.cells.frozen 3
  have f4 := h.cells.frozen 4
  have g0 := owns_frozen h.row (first * 2)
  have g1 := owns_frozen h.row (first * 2 + 1)
  have hgp : g ≠ p := fun e => h.ne (by rw [e]; rfl)
  have hgp' : p ≠ g := fun e => hgp e.symm
  have hs := h.small
  have hw := h.weight
  have hw2 := h.rw63
  rw [sumW_cons] at c4 hw
  have HH : Aside _ := ⟨h⟩
  clear h hc
  obtain ⟨m, hm⟩ : ∃ m, m = q.length := ⟨_, rfl⟩
  obtain ⟨s, hs'⟩ : ∃ s, s = sumW q := ⟨_, rfl⟩
  rw [List.length_cons, ← hm] at c2 hcap hs
  rw [← hs'] at c4 hw
  have HM : Aside _ := ⟨hm⟩
  have HS : Aside _ := ⟨hs'⟩
  rw [← hm] at hb hh
  clear hm hs'
  have hi1 : (0 : Int) ≤ first := by omega
  have hi2 : (first : Int) < (first : Int) + ((m : Int) + 1) := by omega
  have hi3 : (first : Int) + 1 ≤ 9223372036854775807 := by omega
  have hi4 : (x.2 : Int) + s - x.2 = s := by omega
  go_enter Tryd.func38, Tryd.ntmps38
  go_wp2_with fail
  go_region
  go_upto_region 3 with fail
  obtain ⟨w2, hw2'⟩ : ∃ w2, w2 = ((((w.setCell ⟨g, first * 2, none⟩ (.pointer none)).setCell ⟨g, first * 2 + 1, none⟩ (.int .i64 0)).setCell ⟨p, 3, none⟩ (.int .i64 ((first : Int) + 1))).setCell ⟨p, 4, none⟩ (.int .i64 s)).drew := ⟨_, rfl⟩
  rw [← hw2']
  have hn1 : first * 2 + 1 < (first + (m + 1)) * 2 := by omega
  have R2 : w2.ownsRow 0 83 (sz + 1) (.slice (some ⟨g, 0, none⟩) (first + (x :: q).length) cap) ((first + 1) + q.length) ((gone ++ zeros) ++ flat q) := by
    have h1 := owns_setCell HH.it.row (first * 2) (by rw [List.length_cons, ← HM.it]; show _ < _ * 2; omega) (.pointer none)
    have h2 := owns_setCell h1 (first * 2 + 1) (by rw [List.length_cons, ← HM.it]; show _ < _ * 2; omega) (.int .i64 0)
    rw [flat_cons, set_zeros gone x (flat q) (first * 2) HH.it.glen] at h2
    rw [List.length_cons, show first + (q.length + 1) = first + 1 + q.length by omega] at h2 ⊢
    rw [hw2']
    exact owns_later (S := fun k => k = p) h2 (((Keeps.refl (fun k => k = p) _).setCell ⟨p, 3, none⟩ (.int .i64 ((first : Int) + 1)) (fun _ => rfl)).setCell ⟨p, 4, none⟩ (.int .i64 s) (fun _ => rfl)).drew (fun b hb e => by
      simp only [Value.ownBlock, Option.some.injEq] at hb
      exact hgp (hb.trans e))
  have F2 : FifoIn w2 p rt rw q (.slice (some ⟨g, 0, none⟩) (first + (x :: q).length) cap) (first + 1) (gone ++ zeros) := by
    refine ⟨?_, R2, ?_, ?_, ?_, HH.it.rt63, HH.it.rw63⟩
    · have h := (((HH.it.cells.setOther ⟨g, first * 2, none⟩ (.pointer none) hgp').setOther ⟨g, first * 2 + 1, none⟩ (.int .i64 0) hgp').setCell 3 (.int .i64 ((first : Int) + 1))).setCell 4 (.int .i64 s)
      rw [HS.it] at h
      rw [hw2', HS.it]
      exact h
    · rw [List.length_append, HH.it.glen, Nat.succ_mul]; rfl
    · have := HH.it.things
      simp only [List.length_cons] at this
      omega
    · have := HH.it.weight
      rw [sumW_cons] at this
      omega
  have K2 : Aside (Keeps (Own p (.slice (some ⟨g, 0, none⟩) (first + (x :: q).length) cap)) w w2) := ⟨by
    rw [hw2']
    exact (((((Keeps.refl _ w).setCell ⟨g, first * 2, none⟩ _ (fun _ => .inr rfl)).setCell ⟨g, first * 2 + 1, none⟩ _ (fun _ => .inr rfl)).setCell ⟨p, 3, none⟩ _ (fun _ => .inl rfl)).setCell ⟨p, 4, none⟩ _ (fun _ => .inl rfl)).drew⟩
  have G2 : Aside _ := ⟨F2⟩
  have d2 : w2.cell? ⟨p, 2, none⟩ = some (.slice (some ⟨g, 0, none⟩) (first + (x :: q).length) cap) := by rw [F2.cells.cell]; rfl
  have d3 : w2.cell? ⟨p, 3, none⟩ = some (.int .i64 ((first : Int) + 1)) := by rw [F2.cells.cell]; rfl
  have CP := hide (fun n => copied_in (F2.drewN n) (by simp only [by'] at hb ⊢; have := HM.it; omega))
  obtain ⟨N, hN⟩ : ∃ N, N = first + (m + 1) := ⟨_, rfl⟩
  rw [List.length_cons, ← HM.it, ← hN] at d2
  have hNs : N ≤ 9223372036854775807 := by omega
  have W2 : Aside _ := ⟨hw2'⟩
  have HN : Aside _ := ⟨hN⟩
  clear hw2' R2 F2 c2 c3 c4 e0 e1 f2 f3 f4 g0 g1 hN hi4
  by_cases ht : first + 1 ≤ N / 2
  · have ht' : ((first : Int) + 1) ≤ (N : Int) / 2 := by omega
    have HT : Aside _ := ⟨ht⟩
    clear CP ht hb hh hs hcap hw hi1 hi2 hi3 hn1
    go_quiet (fail)
    go_wp2
    go_end0
    refine ⟨rfl, _, _, _, ⟨G2.it.drewN _⟩, ⟨by have := HN.it; have := HM.it; have := HT.it; omega, Nat.le_refl _⟩, ⟨fun k hk => .inl hk⟩, ⟨?_⟩⟩
    exact K2.it.drewN _
  · have ht' : (N : Int) / 2 < ((first : Int) + 1) := by omega
    have HB : Aside _ := ⟨hb⟩
    clear ht hb hh hs hcap hw hi1 hi2 hi3 hn1
    go_quiet (fail)
    go_wp2_with fail
    refine (CP.out nq).mono ?_
    rintro e w3 ⟨v2, rfl, o3, k3⟩
    obtain ⟨x0, x1, x2, hx⟩ := owns_shapeK o3.it
    subst hx
    have C3 := G2.it.cells.later (((Keeps.refl _ _).drewN nq).trans k3.it) (fun x => x)
    have f2 := C3.frozen 2
    have f3 := C3.frozen 3
    have g2 : w3.cell? ⟨p, 2, none⟩ = some (.slice (some ⟨g, 0, none⟩) (first + (x :: q).length) cap) := by rw [C3.cell]; rfl
    have g3 : w3.cell? ⟨p, 3, none⟩ = some (.int .i64 ((first : Int) + 1)) := by rw [C3.cell]; rfl
    have C3' : Aside _ := ⟨C3⟩
    clear C3 d2 d3
    go_wp2
    go_end0
    have hne : (Value.slice x0 x1 x2).ownBlock ≠ some p := owns_ne o3.it C3'.it (by decide)
    have hsz : w.heap.size ≤ w2.heap.size := K2.it.size
    refine ⟨rfl, .slice x0 x1 x2, 0, [], ⟨⟨?_, ?_, rfl, G2.it.things, G2.it.weight, HH.it.rt63, HH.it.rw63⟩⟩, ⟨Nat.zero_le _, Nat.zero_le _⟩, ⟨fun k hk => .inr (Nat.le_trans hsz (owns_base o3.it k hk))⟩, ⟨?_⟩⟩
    · exact (C3'.it.setCell 2 (.slice x0 x1 x2)).setCell 3 (.int .i64 0)
    · have h := owns_later (S := fun k => k = p) (owns_any o3.it) (((Keeps.refl (fun k => k = p) w3).setCell ⟨p, 2, none⟩ (.slice x0 x1 x2) (fun _ => rfl)).setCell ⟨p, 3, none⟩ (.int .i64 0) (fun _ => rfl)) (fun b hb e => hne (e ▸ hb))
      rw [Nat.zero_add, List.nil_append]
      exact h
    · exact ((K2.it.trans (((Keeps.refl _ w2).drewN nq).trans k3.it).any).setCell ⟨p, 2, none⟩ _ (fun _ => .inl rfl)).setCell ⟨p, 3, none⟩ _ (fun _ => .inl rfl)
theorem get_none (x : Value) (w : World) (H : Hid (Calls Tryd.prog 25 #[x] w fun e w' => e = .returned (.tuple #[.pointer none, .int .i64 0, .bool false]) ∧ Keeps Nowhere w w')) :
    Calls Tryd.prog 30 #[x] w fun e w' => e = .returned (.tuple #[.pointer none, .int .i64 0, .bool false]) ∧ Keeps Nowhere w w' := by
  go_enter Tryd.func30, Tryd.ntmps30
  go_wp2_with fail
  refine H.out.mono ?_
  rintro e w1 ⟨rfl, hk⟩
  go_wp2
  go_ret3
  exact ⟨rfl, hk⟩
theorem get_nil (w : World) : Calls Tryd.prog 30 #[.pointer none] w fun e w' => e = .returned (.tuple #[.pointer none, .int .i64 0, .bool false]) ∧ Keeps Nowhere w w' := get_none _ w (hide (head_nil w))
theorem get_empty (h : FifoIn w p rt rw [] v first gone) : Calls Tryd.prog 30 #[.pointer (some ⟨p, 0, none⟩)] w fun e w' => e = .returned (.tuple #[.pointer none, .int .i64 0, .bool false]) ∧ Keeps Nowhere w w' := get_none _ w (hide (head_empty h))
theorem get_in (x : El × Nat) (h : FifoIn w p rt rw (x :: q) v first gone) (hb : (first + q.length + 1) * by' ≤ 140737488355328) (hh : first ≤ q.length + 1) :
    Calls Tryd.prog 30 #[.pointer (some ⟨p, 0, none⟩)] w fun e w' => e = .returned (.tuple #[.pointer (some ⟨x.1, 0, none⟩), .int .i64 x.2, .bool true]) ∧
      ∃ v' first' gone', Aside (FifoIn w' p rt rw q v' first' gone') ∧ Aside (first' ≤ q.length ∧ first' ≤ first + 1) ∧ Aside (∀ k, v'.ownBlock = some k → v.ownBlock = some k ∨ w.heap.size ≤ k) ∧ Aside (Keeps (Own p v) w w') := by
  have H := hide (head_in x h)
  have D : Aside _ := ⟨fun w1 (hk : Keeps Nowhere w w1) => drop_in x (h.later hk (fun _ _ x => x)) hb hh⟩
  clear h hb hh
  go_enter Tryd.func30, Tryd.ntmps30
  go_wp2_with fail
  refine H.out.mono ?_
  rintro e w1 ⟨rfl, hk⟩
  have HK : Aside _ := ⟨hk⟩
  clear hk
  go_wp2_with fail
  refine (D.it w1 HK.it).mono ?_
  rintro e w2 ⟨rfl, v', f', g', h1, h2, h3, h4⟩
  go_wp2
  go_ret3
  exact ⟨rfl, v', f', g', h1, h2, ⟨fun k hk => (h3.it k hk).imp id (Nat.le_trans HK.it.size)⟩, ⟨HK.it.any.trans h4.it⟩⟩
end Go.Proofs.YtfphoaphdfhhiaaDoor.Flaid
