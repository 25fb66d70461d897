/-
  culvertref02: At, New
-/
import Derived.Test.YtkmijhfimkcoiaaDoorRef02
namespace Go.Proofs.YtkmijhfimkcoiaaDoor
open Go.RowKit

/-- the number with i ahead of it -/
def atZ (l : List Int) (i : Int) : Option Int := if i < 0 then none else l[i.toNat]?

theorem refAt_ok (w : World) (cap : Nat) (sv : Value) (l : List Int) (hs : ReadsOff Nowhere w sv (iv l)) (i : Int) :
    Calls Tryd.prog 24 #[.agg #[.int .i64 cap, sv], .int .i64 i] w fun e w' => e = .returned (.tuple #[.int .i64 ((atZ l i).getD 0), .bool (atZ l i).isSome]) ∧ Keeps Nowhere w w' := by
  obtain ⟨sa, sc, rfl, hsl, hsc⟩ := hs
  rw [iv_length] at hsl ⊢
  by_cases h0 : i < 0
  · have e : atZ l i = none := if_pos h0
    rw [e]
    clear hsc e
    go_enter Tryd.func24, Tryd.ntmps24
    go_wp2
    go_ret2
    exact ⟨rfl, (Keeps.refl _ _).alloc _⟩
  · by_cases h1 : (l.length : Int) ≤ i
    · have e : atZ l i = none := by
        unfold atZ
        rw [if_neg h0]
        exact List.getElem?_eq_none (by omega)
      rw [e]
      clear hsc e
      go_enter Tryd.func24, Tryd.ntmps24
      go_wp2
      go_ret2
      exact ⟨rfl, (Keeps.refl _ _).alloc _⟩
    · obtain ⟨j, rfl⟩ : ∃ j : Nat, i = j := ⟨i.toNat, by omega⟩
      have hj : j < l.length := by omega
      have e : atZ l j = some l[j] := by
        unfold atZ
        rw [if_neg h0, Int.toNat_natCast, List.getElem?_eq_getElem hj]
      rw [e]
      obtain ⟨x, rfl, _, hx⟩ := hsc j (.int .i64 l[j]) (by simp [iv, hj])
      have hx1 : ∀ o, (w.alloc o).cell? (x.add j) = some (.int .i64 l[j]) := fun o => by
        rw [((Keeps.refl Nowhere w).alloc o).below (Nat.le_refl _) (fun _ x => x.elim) |>.cell (World.block_lt_of_cell? w _ hx)]; exact hx
      obtain ⟨u, hu⟩ : ∃ u, u = l[j] := ⟨_, rfl⟩
      rw [← hu] at hx1 ⊢
      obtain ⟨ln, hln⟩ : ∃ ln, ln = l.length := ⟨_, rfl⟩
      rw [← hln] at hsl hj h1 ⊢
      clear hsc e hx hu hln
      go_enter Tryd.func24, Tryd.ntmps24
      go_wp2
      go_ret2
      exact ⟨rfl, (Keeps.refl _ _).alloc _⟩
theorem refNew_good (w : World) (n : Nat) (hn : n ≤ 2147483647) :
    Calls Tryd.prog 19 #[.int .i64 n] w fun e w' => e = .returned (.tuple #[.agg #[.int .i64 n, .slice none 0 0], .int .i64 0]) ∧ Keeps Nowhere w w' := by
  go_enter Tryd.func19, Tryd.ntmps19
  go_wp2
  go_returns
  exact ⟨rfl, (Keeps.refl _ _).alloc _⟩
theorem refNew_bad (w : World) (n : Int) (hn : n < 0 ∨ 2147483647 < n) :
    Calls Tryd.prog 19 #[.int .i64 n] w fun e w' => e = .returned (.tuple #[.agg #[.int .i64 0, .slice none 0 0], .int .i64 2]) ∧ Keeps Nowhere w w' := by
  rcases Int.lt_or_le n 0 with h | h
  · clear hn
    go_enter Tryd.func19, Tryd.ntmps19
    go_wp2
    go_returns
    exact ⟨rfl, (Keeps.refl _ _).alloc _⟩
  · have h' : 2147483647 < n := by omega
    clear hn
    go_enter Tryd.func19, Tryd.ntmps19
    go_wp2
    go_returns
    exact ⟨rfl, (Keeps.refl _ _).alloc _⟩
end Go.Proofs.YtkmijhfimkcoiaaDoor
