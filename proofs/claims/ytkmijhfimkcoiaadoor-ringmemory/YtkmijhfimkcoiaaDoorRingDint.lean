/-
  package ring at int: shrink, Peek, Drop, At
-/
import Derived.Test.YtkmijhfimkcoiaaDoorRingCint
namespace Go.Proofs.YtkmijhfimkcoiaaDoor.Rint
open Go.RowKit

theorem RingIn.len {w : World} {p cap : Nat} {items : List Value} {v : Value} {first : Nat} {vals : List Value} (h : RingIn w p cap items v first vals) : items.length ≤ cap := Nat.le_trans h.room h.fits
theorem RingIn.drew {w : World} {p cap : Nat} {items : List Value} {v : Value} {first : Nat} {vals : List Value} (h : RingIn w p cap items v first vals) : RingIn w.drew p cap items v first vals :=
  h.later (Keeps.refl Nowhere w).drew (fun x => x) (fun _ _ x => x)

theorem shrink_in (w : World) (p cap : Nat) (items : List Value) (v : Value) (first : Nat) (vals : List Value) (h : RingIn w p cap items v first vals) :
    Calls Tryd.prog 35 #[.pointer (some ⟨p, 0, none⟩)] w fun e w' => e = .returned (.tuple #[]) ∧ (∃ v' first' vals', Hid (RingIn w' p cap items v' first' vals') ∧
      Hid (∀ k, v'.ownBlock = some k → v.ownBlock = some k ∨ w.heap.size ≤ k)) ∧ Hid (Keeps (fun k => k = p) w w') := by
  obtain ⟨x, rfl⟩ := h.slice
  have c3 : w.cell? ⟨p, 3, none⟩ = some (.int .i64 items.length) := by rw [h.cells.cell]; rfl
  have c1 : w.cell? ⟨p, 1, none⟩ = some (.slice x vals.length vals.length) := by rw [h.cells.cell]; rfl
  have hcap := h.most
  have hfit := h.fits
  have hroom := h.room
  obtain ⟨n, hn⟩ : ∃ n, n = vals.length := ⟨_, rfl⟩
  obtain ⟨m, hm⟩ : ∃ m, m = items.length := ⟨_, rfl⟩
  rw [← hn] at c1 hfit hroom
  rw [← hm] at c3 hroom
  have HH := hide h
  have HN := hide hn
  have HM := hide hm
  clear h hn hm
  have hq : IntKind.i64.wrap ((n : Int) / 4) = ((n / 4 : Nat) : Int) := by
    rw [IntKind.wrap_i64]
    omega
  by_cases hle : m ≤ n / 4
  · have mv : Calls Tryd.prog 36 #[.pointer (some ⟨p, 0, none⟩), .int .i64 (2 * m : Nat)] w.drew fun e w2 =>
        e = .returned (.tuple #[]) ∧ Hid (RingIn w2 p cap items (.slice (some ⟨w.heap.size, 0, none⟩) (2 * m) (2 * m)) 0 (splice (List.replicate (2 * m) (.int .i64 0)) 0 items)) ∧ Hid (Keeps (fun k => k = p) w w2) := by
      have hd := HH.out.drew
      refine (move_at w.drew p cap _ first items.length (2 * m) vals hd.cells hd.row hd.room (by have := HM.out; omega) (by omega) (by have := hd.fits; omega) hd.start hd.one).mono ?_
      rintro e w2 ⟨rfl, a, b, c⟩
      exact ⟨rfl, hd.moved (2 * m) (by have := HM.out; omega) (by omega) a.out b.out, c.out.undrew⟩
    have MV := hide mv
    have hd : (m : Int) ≤ IntKind.i64.wrap ((n : Int) / 4) := by rw [hq]; omega
    clear mv hq
    go_enter Tryd.func35, Tryd.ntmps35
    go_wp2_with fail
    go_region_held_law (fun w' => w'.cell? ⟨p, 1, none⟩ = some (.slice x n n) ∧ w'.cell? ⟨p, 3, none⟩ = some (.int .i64 m)) (exact ⟨c1, c3⟩) (fail)
    go_wp2_with fail
    rw [show 2 * (m : Int) = ((2 * m : Nat) : Int) from by omega]
    refine MV.out.mono ?_
    rintro e w2 ⟨rfl, hr, hk⟩
    go_wp2
    go_end0
    refine ⟨rfl, ⟨_, _, _, hr, ?_⟩, hk⟩
    intro k e
    simp only [Value.ownBlock, Option.some.injEq] at e
    right
    rw [← e]
    exact Nat.le_refl _
  · have hd : IntKind.i64.wrap ((n : Int) / 4) < (m : Int) := by rw [hq]; omega
    clear hq
    go_enter Tryd.func35, Tryd.ntmps35
    go_wp2_with fail
    go_region_held_law (fun w' => w'.cell? ⟨p, 1, none⟩ = some (.slice x n n) ∧ w'.cell? ⟨p, 3, none⟩ = some (.int .i64 m)) (exact ⟨c1, c3⟩) (fail)
    go_wp2
    go_end0
    exact ⟨rfl, ⟨_, _, _, HH.out.drew, fun k hk => .inl hk⟩, (Keeps.refl _ _).drew⟩
theorem splice_all {α : Type} (L cs : List α) (h : cs.length = L.length) : splice L 0 cs = cs := by
  simp [splice, h]

/-- Peek of nothing -/
theorem peek_zero (w : World) (x : Value) (n : Int) (held : Nat) (hh : held ≤ 2147483647) (hm : Nat.min n.toNat held = 0) (hl : Calls Tryd.prog 17 #[x] w fun e w' => e = .returned (.int .i64 held) ∧ w' = w) :
    Calls Tryd.prog 12 #[x, .int .i64 n] w fun e w' => e = .returned (.slice none 0 0) ∧ w' = w := by
  have W := hide (within_any w x n held 0 hh hm.symm hl)
  clear hl hm
  go_enter Tryd.func12, Tryd.ntmps12
  go_wp2_with fail
  refine W.out.mono ?_
  rintro e w' ⟨rfl, rfl⟩
  go_wp2
  go_ret
  exact ⟨rfl, rfl⟩
theorem peek_in (w : World) (p cap : Nat) (items : List Value) (v : Value) (first : Nat) (vals : List Value) (h : RingIn w p cap items v first vals) (n : Int) (m : Nat) (hm : m = Nat.min n.toNat items.length) (h0 : 0 < m) :
    Calls Tryd.prog 12 #[.pointer (some ⟨p, 0, none⟩), .int .i64 n] w fun e w' => e = .returned (.slice (some ⟨w.heap.size, 0, none⟩) m m) ∧ Hid (Cells w' w.heap.size 3 (items.take m)) ∧ Hid (Keeps Nowhere w w') := by
  have hcap := h.most
  have hlen := h.len
  have hmi : m ≤ items.length := by rw [hm]; exact Nat.min_le_right _ _
  have W := hide (within_any w (.pointer (some ⟨p, 0, none⟩)) n items.length m (by omega) hm (len_at w p cap v first _ h.cells))
  obtain ⟨i0, hi, hz0, hz1, hz2⟩ := info_parts info
  obtain ⟨w1, hrun, hc1, hk1, hs1⟩ := run_makeK (P := Tryd.prog) w 27 3 i0 (.int .i64 0) Tryd.underlying27 hi hz0 hz1 zcells m (by rw [hz2]; omega) (by omega)
  have h' := h.later hk1 (fun x => x) (fun _ _ x => x)
  have hp := h.cells.lt
  have hown : v.ownBlock ≠ some w.heap.size := fun e => by have := h.row.lt _ e; omega
  have CT := hide (copyTo_at w1 p cap v first items.length vals h'.cells h'.row w.heap.size _ m m hc1 (by omega) hown (by simp) (Nat.le_refl _) (by have := h.room; omega) h.start (by have := h.fits; omega) h.one)
  have hl := h.list m hmi
  rw [hl, splice_all _ _ (by simp; omega)] at CT
  have HK := hide hk1
  have HR : MakeRun Tryd.prog 27 m w _ w1 := ⟨hrun⟩
  clear hrun
  clear h h' hc1 hk1 hi hz0 hz1 hz2 hm hl hs1 hown hp
  go_enter Tryd.func12, Tryd.ntmps12
  go_wp2_with fail
  refine W.out.mono ?_
  rintro e w' ⟨rfl, rfl⟩
  clear W
  go_upto_region 4 with fail
  go_wp2_with (at_make; refine wpList_makeK rfl _ _ _ rfl m rfl rfl _ _ HR ?_)
  refine CT.out.mono ?_
  rintro e w2 ⟨rfl, hc2, hk2⟩
  go_wp2
  go_ret
  exact ⟨rfl, hc2, (HK.out.next hk2.out (fun k e hk => by omega) : Keeps _ _ _)⟩

theorem drop_zero (w : World) (x : Value) (n : Int) (held : Nat) (hh : held ≤ 2147483647) (hm : Nat.min n.toNat held = 0) (hl : Calls Tryd.prog 17 #[x] w fun e w' => e = .returned (.int .i64 held) ∧ w' = w) :
    Calls Tryd.prog 21 #[x, .int .i64 n] w fun e w' => e = .returned (.int .i64 0) ∧ w' = w := by
  have W := hide (within_any w x n held 0 hh hm.symm hl)
  clear hl hm
  go_enter Tryd.func21, Tryd.ntmps21
  go_wp2_with fail
  refine W.out.mono ?_
  rintro e w' ⟨rfl, rfl⟩
  go_wp2
  go_ret
  exact ⟨rfl, rfl⟩
theorem pl_pl (first n k i : Nat) (hf : first < n) (hki : k + i ≤ n) : pl (pl first n k) n i = pl first n (k + i) := by
  unfold pl
  split <;> split <;> split <;> omega
theorem drop_in (w : World) (p cap : Nat) (items : List Value) (v : Value) (first : Nat) (vals : List Value) (h : RingIn w p cap items v first vals) (n : Int) (m : Nat) (hm : m = Nat.min n.toNat items.length) (h0 : 0 < m) :
    Calls Tryd.prog 21 #[.pointer (some ⟨p, 0, none⟩), .int .i64 n] w fun e w' => e = .returned (.int .i64 m) ∧ (∃ v' first' vals', Hid (RingIn w' p cap (items.drop m) v' first' vals') ∧
      Hid (∀ k, v'.ownBlock = some k → v.ownBlock = some k ∨ w.heap.size ≤ k)) ∧ Hid (Keeps (fun k => k = p ∨ v.ownBlock = some k) w w') := by
  have hcap := h.most
  have hlen := h.len
  have hroom := h.room
  have hfits := h.fits
  have hmi : m ≤ items.length := by rw [hm]; exact Nat.min_le_right _ _
  have W := hide (within_any w (.pointer (some ⟨p, 0, none⟩)) n items.length m (by omega) hm (len_at w p cap v first _ h.cells))
  obtain ⟨g, rfl, hc⟩ : ∃ g, v = .slice (some ⟨g, 0, none⟩) vals.length vals.length ∧ Cells w g 3 vals := by
    rcases h.row with ⟨_, rfl⟩ | hx
    · rw [List.length_nil] at hroom; omega
    · exact hx
  have hf : first < vals.length := by
    rcases h.start with hx | ⟨hx, _⟩
    · exact hx
    · rw [hx, List.length_nil] at hroom; omega
  have hgp : g ≠ p := fun e => h.apart (by subst e; rfl)
  obtain ⟨k0, hk0⟩ : ∃ k0, k0 = vals.length := ⟨_, rfl⟩
  obtain ⟨l0, hl0⟩ : ∃ l0, l0 = items.length := ⟨_, rfl⟩
  have WI := hide (wipe_at w p cap g vals.length first items.length m vals h.cells hc rfl hgp (by omega) (by omega) hf h.one)
  have HH := hide h
  have HK0 := hide hk0
  have HL0 := hide hl0
  rw [← hk0] at WI hfits hroom hf
  rw [← hl0] at hlen hroom hmi
  clear h hc hm hk0 hl0
  go_enter Tryd.func21, Tryd.ntmps21
  go_wp2_with fail
  refine W.out.mono ?_
  rintro e w' ⟨rfl, rfl⟩
  clear W
  go_wp2_with fail
  refine WI.out.mono ?_
  rintro e w1 ⟨rfl, ⟨vals', hc1, hn1, ho1, hv1⟩, hk1⟩
  clear WI
  have hp1 : Cells w1 p 63 (ringCells cap (.slice (some ⟨g, 0, none⟩) k0 k0) first l0) := by
    have := HH.out.cells.later hk1.out (fun e => hgp e.symm)
    rw [← HK0.out, ← HL0.out] at this
    exact this
  have PL := hide (place_at w1 p cap (some ⟨g, 0, none⟩) k0 k0 first l0 m hp1 (by omega) (by omega))
  have c2 : w1.cell? ⟨p, 2, none⟩ = some (.int .i64 first) := by rw [hp1.cell]; rfl
  have c3 : w1.cell? ⟨p, 3, none⟩ = some (.int .i64 l0) := by rw [hp1.cell]; rfl
  have f2 := hp1.frozen 2
  have f3 := hp1.frozen 3
  have HP1 := hide hp1
  clear hp1
  go_wp2_with fail
  refine PL.out.mono ?_
  rintro e w2 ⟨rfl, rfl⟩
  go_wp2_with fail
  have ring2 : RingIn ((w2.setCell ⟨p, 2, none⟩ (.int .i64 (pl first k0 m : Nat))).setCell ⟨p, 3, none⟩ (.int .i64 ((l0 : Int) - m))) p cap (items.drop m) (.slice (some ⟨g, 0, none⟩) k0 k0) (pl first k0 m) vals' := by
    have e3 : ((l0 : Int) - m) = ((items.drop m).length : Int) := by rw [List.length_drop, ← HL0.out]; omega
    have hvl := hn1.out
    refine ⟨?_, ?_, ?_, ?_, ?_, ?_, ?_, ho1.out, ?_⟩
    · rw [e3]
      exact (HP1.out.setCell 2 _).setCell 3 _
    · right
      exact ⟨g, by rw [hvl], (hc1.out.setOther _ _ hgp).setOther _ _ hgp⟩
    · intro e
      simp only [Value.ownBlock, Option.some.injEq] at e
      exact hgp e
    · omega
    · omega
    · rw [List.length_drop, ← HL0.out]; omega
    · left; unfold pl; split <;> omega
    · intro i hi
      rw [List.length_drop, ← HL0.out] at hi
      rw [List.getElem?_drop, HH.out.holds (m + i) (by rw [← HL0.out]; omega), hvl, ← HK0.out, pl_pl first k0 m i hf (by omega), hv1.out (m + i) (by omega) (by omega)]
  refine (shrink_in _ p cap _ _ _ _ ring2).mono ?_
  rintro e w3 ⟨rfl, ⟨v3, f3', vals3, hr3, ho3⟩, hk3⟩
  go_wp2
  go_ret
  refine ⟨rfl, ⟨v3, f3', vals3, hr3, ?_⟩, ?_⟩
  · intro k hk
    rcases ho3.out k hk with hx | hx
    · exact .inl hx
    · right
      have := hk1.out.size
      simp [World.setCell] at hx
      omega
  · refine ((((hk1.out.mono (S' := fun k => k = p ∨ (Value.slice (some ⟨g, 0, none⟩) vals.length vals.length).ownBlock = some k) (fun k e _ => .inr (by subst e; rfl))).setCell _ _ (fun _ => .inl rfl)).setCell _ _ (fun _ => .inl rfl)).next hk3.out (fun k e _ => .inl e) : Keeps _ _ _)
end Go.Proofs.YtkmijhfimkcoiaaDoor.Rint
