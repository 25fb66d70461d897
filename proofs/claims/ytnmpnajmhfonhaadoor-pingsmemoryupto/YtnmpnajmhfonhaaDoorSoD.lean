/-
  slices.Sort of numbers of 32 bits: order2, median, medianAdjacent, choosePivot, reverseRange
-/
import Derived.Test.YtnmpnajmhfonhaaDoorSoB
import Derived.BigRegion
import Derived.Handy
import Derived.Deep.DeepCutAuto
namespace Go.Proofs.YtnmpnajmhfonhaaDoor
open Go.RowKit Go.Sort

theorem Ro.ne {w : World} {g off cap sb : Nat} {d : Array Nat} {cs : List Value} (h : Ro w g off cap d) (hc : Cells w sb 3 cs) : g ≠ sb := fun e => owns_ne h.2 hc (by decide) (by rw [e]; rfl)

/-- what a look at the row leaves: the count of swaps alone has changed -/
structure Sw (w : World) (sb n : Nat) (w' : World) : Prop where
  c : ∃ s : Nat, s ≤ n ∧ Cells w' sb 3 [.int .i64 s]
  k : Keeps (fun k => k = sb) w w'

theorem order32 (g off cap a b sb n : Nat) (d : Array Nat) (w : World) (h : Ro w g off cap d) (ha : a < d.size) (hb : b < d.size) (hc : Sw w sb n w) (hn : n ≤ 1000) :
    Calls Tryd.prog 64 #[.slice (some ⟨g, off, none⟩) d.size cap, .int .i64 a, .int .i64 b, ptr sb] w fun e w' =>
      ∃ x y : Nat, e = .returned (.tuple #[.int .i64 x, .int .i64 y]) ∧ Aside (Sw w sb (n + 1) w') ∧ ((x = a ∧ y = b) ∨ (x = b ∧ y = a)) := by
  obtain ⟨N, hN⟩ : ∃ N, d.size = N := ⟨_, rfl⟩
  obtain ⟨G, HG, hcw, hfw⟩ := h.names hN
  obtain ⟨⟨s, hsn, c0⟩, _⟩ := hc
  have hcap : N ≤ cap := hN ▸ h.le
  rw [hN] at ha hb ⊢
  have C0 := Aside.mk c0
  have y0 : ∀ q, (w.drewN q).cell? ⟨sb, 0, none⟩ = some (.int .i64 s) := fun q => by rw [(c0.drewN q).cell]; rfl
  have z0 : ∀ q, (w.drewN q).frozen? ⟨sb, 0, none⟩ = false := fun q => (c0.drewN q).frozen 0
  have hs1 : (s : Int) ≤ 1000 := by omega
  clear h hN c0
  go_enter Tryd.func64, Tryd.ntmps64
  go_wp2_with fail
  go_big_quiet (first | (go_at_call 53; refine Calls.quiet_of_same (less32 _ _ _)))
  have y1 := y0 nq
  have z1 := z0 nq
  go_wp2
  · go_returns
    exact ⟨b, a, rfl, ⟨⟨s + 1, by omega, by have := (C0.it.drewN nq).setCell 0 (.int .i64 ((s : Int) + 1)); exact this⟩, ((Keeps.refl _ _).drewN nq).setCell _ _ (fun _ => rfl)⟩, .inr ⟨rfl, rfl⟩⟩
  · go_returns
    exact ⟨a, b, rfl, ⟨⟨s, by omega, C0.it.drewN nq⟩, (Keeps.refl _ _).drewN nq⟩, .inl ⟨rfl, rfl⟩⟩

theorem Sw.trans {w W w' : World} {sb n m : Nat} (h : Sw w sb n W) (h' : Sw W sb m w') : Sw w sb m w' := ⟨h'.c, h.k.trans h'.k⟩
theorem Sw.self {w W : World} {sb n : Nat} (h : Sw w sb n W) : Sw W sb n W := ⟨h.c, Keeps.refl _ _⟩

theorem median32 (g off cap a b c sb n : Nat) (d : Array Nat) (w : World) (h : Ro w g off cap d) (ha : a < d.size) (hb : b < d.size) (hcc : c < d.size) (hc : Sw w sb n w) (hg : g ≠ sb) (hn : n ≤ 990) :
    Calls Tryd.prog 62 #[.slice (some ⟨g, off, none⟩) d.size cap, .int .i64 a, .int .i64 b, .int .i64 c, ptr sb] w fun e w' =>
      ∃ x : Nat, e = .returned (.int .i64 x) ∧ Aside (Sw w sb (n + 3) w') ∧ (x = a ∨ x = b ∨ x = c) := by
  have H := Aside.mk h
  have HC := Aside.mk hc
  have C1 := Aside.mk (order32 g off cap a b sb n d w h ha hb hc (by omega))
  clear h hc
  go_enter Tryd.func62, Tryd.ntmps62
  go_wp2_with fail
  refine C1.it.mono ?_
  rintro e w1 ⟨x1, y1, rfl, S1, p1⟩
  clear C1
  have r1 := H.it.later S1.it.k (by exact hg)
  have C2 := Aside.mk (order32 g off cap y1 c sb (n + 1) d w1 r1 (by omega) hcc S1.it.self (by omega))
  clear r1
  go_wp2_with fail
  refine C2.it.mono ?_
  rintro e w2 ⟨x2, y2, rfl, S2, p2⟩
  clear C2
  have T2 := Aside.mk (S1.it.trans S2.it)
  have r2 := H.it.later T2.it.k (by exact hg)
  have C3 := Aside.mk (order32 g off cap x1 x2 sb (n + 2) d w2 r2 (by omega) (by omega) S2.it.self (by omega))
  clear r2
  go_wp2_with fail
  refine C3.it.mono ?_
  rintro e w3 ⟨x3, y3, rfl, S3, p3⟩
  clear C3
  go_wp2
  go_ret
  exact ⟨y3, rfl, ⟨T2.it.trans S3.it⟩, by omega⟩

theorem adj32 (g off cap i sb n : Nat) (d : Array Nat) (w : World) (h : Ro w g off cap d) (h1 : 1 ≤ i) (ha : i + 1 < d.size) (hs : d.size ≤ 4611686018427387903) (hc : Sw w sb n w) (hg : g ≠ sb) (hn : n ≤ 990) :
    Calls Tryd.prog 61 #[.slice (some ⟨g, off, none⟩) d.size cap, .int .i64 i, ptr sb] w fun e w' =>
      ∃ x : Nat, e = .returned (.int .i64 x) ∧ Aside (Sw w sb (n + 3) w') ∧ i ≤ x + 1 ∧ x ≤ i + 1 := by
  have C1 := Aside.mk (median32 g off cap (i - 1) i (i + 1) sb n d w h (by omega) (by omega) ha hc hg hn)
  have e1 : (i : Int) - 1 = (i - 1 : Nat) := by omega
  have e2 : (i : Int) + 1 = (i + 1 : Nat) := by omega
  obtain ⟨x1, hx1⟩ : ∃ x1, i - 1 = x1 := ⟨_, rfl⟩
  obtain ⟨x2, hx2⟩ : ∃ x2, i + 1 = x2 := ⟨_, rfl⟩
  rw [hx1] at C1 e1
  rw [hx2] at C1 e2
  have HX := Aside.mk (And.intro hx1 hx2)
  clear h hc hx1 hx2
  go_enter Tryd.func61, Tryd.ntmps61
  go_wp2_with fail
  refine C1.it.mono ?_
  rintro e w1 ⟨x, rfl, S1, p1⟩
  clear C1
  go_wp2
  go_ret
  have := HX.it
  exact ⟨x, rfl, S1, by omega, by omega⟩

theorem reverse32 (g off cap a b : Nat) (d : Array Nat) (w : World) (h : Ro w g off cap d) (ha : a < b) (hb : b ≤ d.size) (hs : d.size ≤ 4611686018427387903) :
    Calls Tryd.prog 51 #[.slice (some ⟨g, off, none⟩) d.size cap, .int .i64 a, .int .i64 b] w fun e w' =>
      e = .returned (.tuple #[]) ∧ ∃ d', Aside (PermIn a b d d' ∧ So w g off cap d' w') := by
  obtain ⟨N, hN⟩ : ∃ N, d.size = N := ⟨_, rfl⟩
  have H := Aside.mk h
  have HN := Aside.mk hN
  have hcap : N ≤ cap := hN ▸ h.le
  rw [hN] at hb hs ⊢
  clear h hN
  go_enter Tryd.func51, Tryd.ntmps51
  go_wp2
  go_loopw [6, 7] (fun vi vj wr => ∃ (i j : Nat) (dk : Array Nat), vi = .int .i64 i ∧ vj = .int .i64 j ∧ a ≤ i ∧ j < b ∧ dk.size = N ∧ PermIn a b d dk ∧ So w g off cap dk wr) (fun vi vj _ => natOf vj - natOf vi)
  case atStart => exact ⟨a, b - 1, d, rfl, by congr 1; omega, Nat.le_refl _, by omega, HN.it, permIn_refl _ _ _, So.refl H.it⟩
  case round =>
    obtain ⟨i, j, dk, rfl, rfl, hi, hj, hsk, hP, hS⟩ := hrel
    obtain ⟨G, HG, hcw, hfw⟩ := hS.r.names hsk
    have HP := Aside.mk hP
    have HS := Aside.mk hS
    have HSK := Aside.mk hsk
    clear hP hS hsk
    go_wp2_with fail
    · have hlt : i < j := by assumption
      go_region
      all_goals go_wp2
      go_roundw
      case rel =>
        refine ⟨i + 1, j - 1, swp dk i j, by go_num, by congr 1; omega, by omega, by omega, by rw [size_swp]; exact HSK.it, ?_, ?_⟩
        · exact permIn_trans _ _ _ a b HP.it (swp_permIn _ a b i j hi (by omega) (by omega) hj (by rw [HSK.it]; exact hb))
        · have := HS.it.drew.swap i j (by rw [HSK.it]; omega) (by rw [HSK.it]; omega)
          rw [← HG.it, ← HG.it] at this
          exact this
      case measure => simp [natOf]; omega
    · go_end0
      exact ⟨rfl, dk, ⟨HP.it, HS.it⟩⟩
end Go.Proofs.YtnmpnajmhfonhaaDoor
