/-
  package ring at int: every call, on every ring and on nil
-/
import Derived.Test.YtkmijhfimkcoiaaDoorRingEint
namespace Go.Proofs.YtkmijhfimkcoiaaDoor.Rint
open Go.RowKit

/-- x is a ring of this capacity and these things, its memory in blocks of S; nil is one of the capacity 0 -/
def RingV (S : Nat → Prop) (w : World) (x : Value) (cap : Nat) (items : List Value) : Prop :=
  (x = .pointer none ∧ cap = 0 ∧ items = []) ∨ ∃ p v first vals, x = .pointer (some ⟨p, 0, none⟩) ∧ RingIn w p cap items v first vals ∧ S p ∧ ∀ k, v.ownBlock = some k → S k
/-- what a call leaves of S: blocks of old, and new ones -/
def Next (S : Nat → Prop) (n z : Nat) : Nat → Prop := fun k => (S k ∧ k < n) ∨ z ≤ k

variable {S : Nat → Prop} {w : World} {x : Value} {cap : Nat} {items : List Value}

theorem RingV.mono {S' : Nat → Prop} (h : RingV S w x cap items) (hs : ∀ k, S k → k < w.heap.size → S' k) : RingV S' w x cap items := by
  rcases h with h | ⟨p, v, f, vals, rfl, h, hp, hv⟩
  · exact .inl h
  · exact .inr ⟨p, v, f, vals, rfl, h, hs p hp h.cells.lt, fun k hk => hs k (hv k hk) (h.row.lt k hk)⟩
theorem RingV.later {S' : Nat → Prop} {w' : World} (h : RingV S w x cap items) (hk : Keeps S' w w') (hs : ∀ k, S k → k < w.heap.size → ¬ S' k) : RingV (fun k => S k ∧ k < w.heap.size) w' x cap items := by
  rcases h with h | ⟨p, v, f, vals, rfl, h, hp, hv⟩
  · exact .inl h
  · exact .inr ⟨p, v, f, vals, rfl, h.later hk (hs p hp h.cells.lt) (fun k e => hs k (hv k e) (h.row.lt k e)), ⟨hp, h.cells.lt⟩, fun k e => ⟨hv k e, h.row.lt k e⟩⟩
theorem RingV.len (h : RingV S w x cap items) : items.length ≤ cap ∧ cap ≤ 2147483647 := by
  rcases h with ⟨_, rfl, rfl⟩ | ⟨p, v, f, vals, rfl, h, hp, hv⟩
  · simp
  · exact ⟨h.len, h.most⟩
theorem RingV.one (h : RingV S w x cap items) : ∀ u ∈ items, u.oneCell' = true := by
  rcases h with ⟨_, rfl, rfl⟩ | ⟨p, v, f, vals, rfl, h, hp, hv⟩
  · simp
  · exact h.itemsOne
theorem capV (h : RingV S w x cap items) : Calls Tryd.prog 25 #[x] w fun e w' => e = .returned (.int .i64 cap) ∧ w' = w := by
  rcases h with ⟨rfl, rfl, rfl⟩ | ⟨p, v, f, vals, rfl, h, hp, hv⟩
  · exact cap_nil w
  · exact cap_at w p cap v f _ h.cells
theorem lenV (h : RingV S w x cap items) : Calls Tryd.prog 17 #[x] w fun e w' => e = .returned (.int .i64 items.length) ∧ w' = w := by
  rcases h with ⟨rfl, rfl, rfl⟩ | ⟨p, v, f, vals, rfl, h, hp, hv⟩
  · exact len_nil w
  · exact len_at w p cap v f _ h.cells
theorem freeV (h : RingV S w x cap items) : Calls Tryd.prog 18 #[x] w fun e w' => e = .returned (.int .i64 ((cap : Int) - items.length)) ∧ w' = w :=
  free_any w x cap items.length h.len.1 h.len.2 (capV h) (lenV h)
theorem take_toNat (items : List Value) (n : Int) : items.take n.toNat = items.take (Nat.min n.toNat items.length) := by
  apply List.ext_getElem?
  intro i
  simp only [List.getElem?_take]
  by_cases h : i < items.length
  · have : (i < n.toNat) = (i < Nat.min n.toNat items.length) := by
      simp only [Nat.min_def]; split <;> simp <;> omega
    simp only [this]
  · rw [List.getElem?_eq_none (by omega)]; simp
theorem drop_toNat (items : List Value) (n : Int) : items.drop n.toNat = items.drop (Nat.min n.toNat items.length) := by
  simp only [Nat.min_def]
  split
  · rfl
  · rw [List.drop_length, List.drop_eq_nil_of_le (by omega)]
theorem peekV (h : RingV S w x cap items) (n : Int) : Calls Tryd.prog 12 #[x, .int .i64 n] w fun e w' => ∃ s, e = .returned s ∧ RowAt w' 3 s (items.take n.toNat) ∧ (∀ k, s.ownBlock = some k → w.heap.size ≤ k) ∧ Keeps Nowhere w w' := by
  have hl := h.len
  have L := lenV h
  rcases Nat.eq_zero_or_pos (Nat.min n.toNat items.length) with h0 | h0
  · refine (peek_zero w x n items.length (by omega) h0 L).mono ?_
    rintro e w' ⟨rfl, rfl⟩
    refine ⟨_, rfl, .inl ⟨rfl, ?_⟩, fun k hk => (by cases hk), Keeps.refl _ _⟩
    rw [take_toNat, h0]; rfl
  · rcases h with ⟨rfl, rfl, rfl⟩ | ⟨p, v, f, vals, rfl, h, hp, hv⟩
    · simp at h0
    · refine (peek_in w p cap items v f vals h n _ rfl h0).mono ?_
      rintro e w' ⟨rfl, hc, hk⟩
      refine ⟨_, rfl, .inr ⟨w.heap.size, ?_, ?_⟩, fun k hk => ?_, hk.out⟩
      · rw [take_toNat, List.length_take]
        rw [show min (Nat.min n.toNat items.length) items.length = Nat.min n.toNat items.length from Nat.min_eq_left (Nat.min_le_right _ _)]
      · rw [take_toNat]; exact hc.out
      · simp only [Value.ownBlock, Option.some.injEq] at hk
        omega
theorem dropV (h : RingV S w x cap items) (n : Int) : Calls Tryd.prog 21 #[x, .int .i64 n] w fun e w' => e = .returned (.int .i64 (Nat.min n.toNat items.length : Nat)) ∧ RingV (Next S w.heap.size w.heap.size) w' x cap (items.drop n.toNat) ∧ Keeps S w w' := by
  have hl := h.len
  have L := lenV h
  rcases Nat.eq_zero_or_pos (Nat.min n.toNat items.length) with h0 | h0
  · refine (drop_zero w x n items.length (by omega) h0 L).mono ?_
    rintro e w' ⟨rfl, rfl⟩
    refine ⟨by rw [h0]; rfl, ?_, Keeps.refl _ _⟩
    rw [drop_toNat, h0]
    exact h.mono (fun k hk hlt => .inl ⟨hk, hlt⟩)
  · rcases h with ⟨rfl, rfl, rfl⟩ | ⟨p, v, f, vals, rfl, h, hp, hv⟩
    · simp at h0
    · refine (drop_in w p cap items v f vals h n _ rfl h0).mono ?_
      rintro e w' ⟨rfl, ⟨v', f', vals', hr, ho⟩, hk⟩
      refine ⟨rfl, ?_, ?_⟩
      · rw [drop_toNat]
        refine .inr ⟨p, v', f', vals', rfl, hr.out, .inl ⟨hp, h.cells.lt⟩, fun k e => ?_⟩
        rcases ho.out k e with e' | e'
        · exact .inl ⟨hv k e', h.row.lt k e'⟩
        · exact .inr e'
      · refine hk.out.mono (fun k e _ => ?_)
        rcases e with rfl | e
        · exact hp
        · exact hv k e
theorem popV (h : RingV S w x cap items) (n : Int) : Calls Tryd.prog 13 #[x, .int .i64 n] w fun e w' => ∃ s z, e = .returned s ∧ RowAt w' 3 s (items.take n.toNat) ∧ w.heap.size ≤ z ∧ z ≤ w'.heap.size ∧ (∀ k, s.ownBlock = some k → w.heap.size ≤ k ∧ k < z) ∧
    RingV (Next S w.heap.size z) w' x cap (items.drop n.toNat) ∧ Keeps S w w' := by
  have PK := hide (peekV h n)
  have hl := h.len
  have HH := hide h
  clear h
  go_enter Tryd.func13, Tryd.ntmps13
  go_wp2_with fail
  refine PK.out.mono ?_
  rintro e w1 ⟨s, rfl, hs, hfr, hk⟩
  have h1 := HH.out.later hk (fun _ _ _ x => x)
  obtain ⟨m, hm⟩ : ∃ m, m = (items.take n.toNat).length := ⟨_, rfl⟩
  obtain ⟨sa, sc, hsv⟩ : ∃ sa sc, s = .slice sa m sc := by
    subst hm
    rcases hs with ⟨rfl, e⟩ | ⟨g, rfl, _⟩
    · exact ⟨none, 0, by simp [e]⟩
    · exact ⟨_, _, rfl⟩
  have HS := hide hs
  have HF := hide hfr
  have HK := hide hk
  subst hsv
  clear hs hfr hk PK
  have HM : Aside (m = Nat.min n.toNat items.length) := ⟨by rw [hm, List.length_take]⟩
  clear hm
  have DR := hide (dropV h1 (m : Int))
  go_wp2_with fail
  refine DR.out.mono ?_
  rintro e w2 ⟨rfl, hr, hk2⟩
  have HR := hide hr
  have HK2 := hide hk2
  clear hr hk2
  go_wp2
  go_ret
  refine ⟨_, w1.heap.size, rfl, ?_, HK.out.size, HK2.out.size, ?_, ?_, ?_⟩
  · refine HS.out.later HK2.out (fun k hk hx => ?_)
    have := HF.out k hk
    omega
  · exact fun k hk => ⟨HF.out k hk, HS.out.lt k hk⟩
  · have e : items.drop n.toNat = items.drop ((m : Int).toNat) := by
      rw [Int.toNat_natCast, HM.it]
      exact drop_toNat items n
    rw [e]
    refine HR.out.mono (fun k hk hlt => ?_)
    rcases hk with ⟨⟨a, b⟩, c⟩ | c
    · exact .inl ⟨a, b⟩
    · exact .inr c
  · exact (HK.out.any (S := S)).next HK2.out (fun k hk _ => hk.1)
theorem pushV (h : RingV S w x cap items) (src : Value) (xs : List Value) (hx : ReadsOff S w src xs) (hlx : xs.length ≤ 9223372036854775807) (hone : ∀ u ∈ xs, u.oneCell' = true) :
    Calls Tryd.prog 8 #[x, src] w fun e w' => e = .returned (.int .i64 (Nat.min xs.length (cap - items.length) : Nat)) ∧ RingV (Next S w.heap.size w.heap.size) w' x cap (items ++ xs.take (cap - items.length)) ∧ Keeps S w w' := by
  have hl := h.len
  rcases Nat.eq_zero_or_pos (Nat.min xs.length (cap - items.length)) with h0 | h0
  · obtain ⟨a, c, rfl, hlc, hcell⟩ := hx
    refine (push_zero w x a c xs.length cap items.length hl.1 hl.2 h0 (capV h) (lenV h)).mono ?_
    rintro e w' ⟨rfl, rfl⟩
    refine ⟨by rw [h0]; rfl, ?_, Keeps.refl _ _⟩
    have : xs.take (cap - items.length) = [] := by
      simp only [Nat.min_def] at h0
      split at h0
      · rw [List.eq_nil_of_length_eq_zero h0]; simp
      · rw [h0]; rfl
    rw [this, List.append_nil]
    exact h.mono (fun k hk hlt => .inl ⟨hk, hlt⟩)
  · rcases h with ⟨rfl, rfl, rfl⟩ | ⟨p, v, f, vals, rfl, h, hp, hv⟩
    · simp at h0
    · refine (push_in w p cap items v f vals h src xs (hx.mono ?_) hlx _ rfl h0 hone).mono ?_
      · rintro k (rfl | e) _
        · exact hp
        · exact hv k e
      · rintro e w' ⟨rfl, ⟨v', f', vals', hr, ho⟩, hk⟩
        have et : xs.take (Nat.min xs.length (cap - items.length)) = xs.take (cap - items.length) := by
          simp only [Nat.min_def]
          split
          · rw [List.take_length, List.take_of_length_le (by omega)]
          · rfl
        rw [et] at hr
        refine ⟨rfl, ?_, ?_⟩
        · refine .inr ⟨p, v', f', vals', rfl, hr.out, .inl ⟨hp, h.cells.lt⟩, fun k e => ?_⟩
          rcases ho.out k e with e' | e'
          · exact .inl ⟨hv k e', h.row.lt k e'⟩
          · exact .inr e'
        · refine hk.out.mono (fun k e _ => ?_)
          rcases e with rfl | e
          · exact hp
          · exact hv k e
theorem new_bad (w : World) (n : Int) (er : Value) (hc : w.cell? ⟨0, 0, none⟩ = some er) (hn : n < 0 ∨ 2147483647 < n) :
    Calls Tryd.prog 16 #[.int .i64 n] w fun e w' => e = .returned (.tuple #[.pointer none, er]) ∧ Keeps Nowhere w w' := by
  rcases Int.lt_or_le n 0 with h | h
  · clear hn
    go_enter Tryd.func16, Tryd.ntmps16
    go_wp2_with fail
    go_region_held_law (fun w' => w'.cell? ⟨0, 0, none⟩ = some er) (exact hc) (fail)
    go_wp2
    go_ret2
    exact ⟨rfl, (Keeps.refl _ _).drew⟩
  · have h' : 2147483647 < n := by omega
    clear hn
    go_enter Tryd.func16, Tryd.ntmps16
    go_wp2_with fail
    go_region_held_law (fun w' => w'.cell? ⟨0, 0, none⟩ = some er) (exact hc) (fail)
    go_wp2
    go_ret2
    exact ⟨rfl, (Keeps.refl _ _).drew⟩
theorem new_good (w : World) (n : Nat) (hn : n ≤ 2147483647) :
    Calls Tryd.prog 16 #[.int .i64 n] w fun e w' => e = .returned (.tuple #[.pointer (some ⟨w.heap.size, 0, none⟩), .nilIface]) ∧ RingV (fun k => k = w.heap.size) w' (.pointer (some ⟨w.heap.size, 0, none⟩)) n [] ∧ Keeps Nowhere w w' := by
  go_enter Tryd.func16, Tryd.ntmps16
  go_wp2
  go_ret2
  refine ⟨rfl, .inr ⟨w.heap.size, .slice none 0 0, 0, [], rfl, ⟨?_, .inl ⟨rfl, rfl⟩, ?_, Nat.zero_le _, hn, Nat.le_refl _, .inr ⟨rfl, rfl⟩, ?_, ?_⟩, rfl, ?_⟩, (Keeps.refl _ _).alloc _⟩
  · exact Cells.new w _ (ringCells n (.slice none 0 0) 0 0)
  · intro e; cases e
  · intro x hx; cases hx
  · intro i hi; cases hi
  · intro k hk; cases hk
end Go.Proofs.YtkmijhfimkcoiaaDoor.Rint
