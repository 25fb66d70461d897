/-
  layer 14: the document's functions
-/
import Derived.Test.YthfedcebbnlmaaaDoorIdC
namespace Go.Proofs.YthfedcebbnlmaaaDoor
open Go.RowKit

section
variable {w w' : World} {x : Im}
def refF (f b n m t : Int) : Value := .agg #[.int .i64 f, .int .i64 b, .int .i64 n, .int .i64 m, .int .i64 t]
/-- the document's IDs -/
def refL (x : Im) : Value := refF (2 - x.o) x.b x.n (x.mark x.o) (x.mark (1 - x.o))
theorem rOwn (f b n m t id k : Int) (w : World) (hf : (f = 1 ∧ k = 1) ∨ (f = 2 ∧ k = 0)) (h0 : 0 ≤ id) :
    Calls Tryd.prog 22 #[.agg #[.int .i64 f, .int .i64 b, .int .i64 n, .int .i64 m, .int .i64 t], .int .i64 id] w fun e w' => e = .returned (.bool (id != 0 && id % 2 == k)) ∧ w' = w.alloc (.cells #[.int .i64 f, .int .i64 b, .int .i64 n, .int .i64 m, .int .i64 t] 37) := by
  have e1 : id.tmod 2 = id % 2 := Int.tmod_eq_emod_of_nonneg h0
  by_cases hz : id = 0
  · subst hz
    rcases hf with ⟨rfl, rfl⟩ | ⟨rfl, rfl⟩
    · go_enter Tryd.func22, Tryd.ntmps22
      go_wp2
      go_ret
      exact ⟨rfl, rfl⟩
    · go_enter Tryd.func22, Tryd.ntmps22
      go_wp2
      go_ret
      exact ⟨rfl, rfl⟩
  · have hp : 0 < id := by omega
    have ez : (id != 0) = true := by simpa using hz
    rw [ez, Bool.true_and]
    clear ez hz
    have m1 : 0 ≤ id % 2 := by omega
    have m2 : id % 2 < 2 := by omega
    rcases hf with ⟨rfl, rfl⟩ | ⟨rfl, rfl⟩
    · go_enter Tryd.func22, Tryd.ntmps22
      go_wp2
      go_ret
      exact ⟨by first | rfl | rw [e1], rfl⟩
    · go_enter Tryd.func22, Tryd.ntmps22
      go_wp2
      go_ret
      exact ⟨by first | rfl | rw [e1], rfl⟩
theorem rTake (f b n m t : Int) (w : World) (hf : f = 1 ∨ f = 2) (h0 : 0 ≤ n) (h1 : n ≤ 4294967295) :
    Calls Tryd.prog 14 #[.agg #[.int .i64 f, .int .i64 b, .int .i64 n, .int .i64 m, .int .i64 t]] w fun e w' => e = .returned (.tuple #[.agg #[.int .i64 f, .int .i64 b, .int .i64 (n + 2), .int .i64 m, .int .i64 t], .int .i64 n, .int .i64 0]) ∧ Aside (Keeps Nowhere w w') := by
  have hz : ¬ f = 0 := by omega
  go_enter Tryd.func14, Tryd.ntmps14
  go_wp2
  go_returns
  exact ⟨rfl, ⟨((Keeps.refl _ _).alloc _).alloc _⟩⟩
theorem rTake_no (f b n m t : Int) (w : World) (hf : f = 1 ∨ f = 2) (h1 : ¬ n ≤ 4294967295) :
    Calls Tryd.prog 14 #[.agg #[.int .i64 f, .int .i64 b, .int .i64 n, .int .i64 m, .int .i64 t]] w fun e w' => e = .returned (.tuple #[.agg #[.int .i64 f, .int .i64 b, .int .i64 n, .int .i64 m, .int .i64 t], .int .i64 0, .int .i64 32]) ∧ Aside (Keeps Nowhere w w') := by
  have hz : ¬ f = 0 := by omega
  go_enter Tryd.func14, Tryd.ntmps14
  go_wp2
  go_returns
  exact ⟨rfl, ⟨((Keeps.refl _ _).alloc _).alloc _⟩⟩
theorem rTake_nil (w : World) : Calls Tryd.prog 14 #[refF 0 0 0 0 0] w fun e w' => e = .returned (.tuple #[refF 0 0 0 0 0, .int .i64 0, .int .i64 1]) ∧ Aside (Keeps Nowhere w w') := by
  unfold refF
  go_enter Tryd.func14, Tryd.ntmps14
  go_wp2
  go_returns
  exact ⟨rfl, ⟨((Keeps.refl _ _).alloc _).alloc _⟩⟩
theorem rLeft (f b n m t : Int) (w : World) (hf : f = 1 ∨ f = 2) (h0 : 0 ≤ n) (h1 : n ≤ 4294967295) :
    Calls Tryd.prog 24 #[.agg #[.int .i64 f, .int .i64 b, .int .i64 n, .int .i64 m, .int .i64 t]] w fun e w' => e = .returned (.int .i64 ((4294967295 - n) / 2 + 1)) ∧ Aside (Keeps Nowhere w w') := by
  rcases hf with rfl | rfl
  all_goals
    go_enter Tryd.func24, Tryd.ntmps24
    go_wp2
    all_goals first
      | (exfalso; omega)
      | skip
    go_ret
    exact ⟨rfl, ⟨(Keeps.refl _ _).alloc _⟩⟩
theorem rLeft_no (f b n m t : Int) (w : World) (hf : f = 1 ∨ f = 2) (h1 : ¬ n ≤ 4294967295) :
    Calls Tryd.prog 24 #[.agg #[.int .i64 f, .int .i64 b, .int .i64 n, .int .i64 m, .int .i64 t]] w fun e w' => e = .returned (.int .i64 0) ∧ Aside (Keeps Nowhere w w') := by
  rcases hf with rfl | rfl
  all_goals
    go_enter Tryd.func24, Tryd.ntmps24
    go_wp2
    all_goals first
      | (exfalso; omega)
      | skip
    go_ret
    exact ⟨rfl, ⟨(Keeps.refl _ _).alloc _⟩⟩
theorem rLeft_nil (w : World) : Calls Tryd.prog 24 #[refF 0 0 0 0 0] w fun e w' => e = .returned (.int .i64 0) ∧ Aside (Keeps Nowhere w w') := by
  unfold refF
  go_enter Tryd.func24, Tryd.ntmps24
  go_wp2
  go_ret
  exact ⟨rfl, ⟨(Keeps.refl _ _).alloc _⟩⟩
theorem rOwn_nil (id : Int) (w : World) : Calls Tryd.prog 22 #[refF 0 0 0 0 0, .int .i64 id] w fun e w' => e = .returned (.bool false) ∧ Aside (Keeps Nowhere w w') := by
  unfold refF
  go_enter Tryd.func22, Tryd.ntmps22
  go_wp2
  go_ret
  exact ⟨rfl, ⟨(Keeps.refl _ _).alloc _⟩⟩
theorem rKnown_nil (id : Int) (w : World) : Calls Tryd.prog 20 #[refF 0 0 0 0 0, .int .i64 id] w fun e w' => e = .returned (.bool false) ∧ Aside (Keeps Nowhere w w') := by
  unfold refF
  go_enter Tryd.func20, Tryd.ntmps20
  go_wp2
  go_ret
  exact ⟨rfl, ⟨(Keeps.refl _ _).alloc _⟩⟩
theorem rSent_nil (id : Int) (w : World) : Calls Tryd.prog 15 #[refF 0 0 0 0 0, .int .i64 id] w fun e w' => e = .returned (.tuple #[refF 0 0 0 0 0, .int .i64 1]) ∧ Aside (Keeps Nowhere w w') := by
  unfold refF
  go_enter Tryd.func15, Tryd.ntmps15
  go_wp2
  go_returns
  exact ⟨rfl, ⟨((Keeps.refl _ _).alloc _).alloc _⟩⟩
theorem rHear_nil (id : Int) (w : World) : Calls Tryd.prog 17 #[refF 0 0 0 0 0, .int .i64 id] w fun e w' => e = .returned (.tuple #[refF 0 0 0 0 0, .int .i64 1]) ∧ Aside (Keeps Nowhere w w') := by
  unfold refF
  go_enter Tryd.func17, Tryd.ntmps17
  go_wp2
  go_returns
  exact ⟨rfl, ⟨((Keeps.refl _ _).alloc _).alloc _⟩⟩
theorem rSent18 (f b n m t id k : Int) (w : World) (hf : (f = 1 ∧ k = 1) ∨ (f = 2 ∧ k = 0)) (h0 : 0 ≤ id) (hq : (id != 0 && id % 2 == k) = false) :
    Calls Tryd.prog 15 #[.agg #[.int .i64 f, .int .i64 b, .int .i64 n, .int .i64 m, .int .i64 t], .int .i64 id] w fun e w' => e = .returned (.tuple #[.agg #[.int .i64 f, .int .i64 b, .int .i64 n, .int .i64 m, .int .i64 t], .int .i64 18]) ∧ Aside (Keeps Nowhere w w') := by
  have O := Aside.mk (fun w => rOwn f b n m t id k w hf h0)
  have hz : ¬ f = 0 := by omega
  rw [hq] at O
  clear hq
  clear hf
  go_enter Tryd.func15, Tryd.ntmps15
  go_wp2_with (first | (go_at_call 22; refine (O.it _).mono ?_; rintro e w1 ⟨rfl, rfl⟩) | fail)
  all_goals first
    | (exfalso; omega)
    | skip
  go_returns
  exact ⟨rfl, ⟨(((Keeps.refl _ _).alloc _).alloc _).alloc _⟩⟩
theorem rSent9a (f b n m t id k : Int) (w : World) (hf : (f = 1 ∧ k = 1) ∨ (f = 2 ∧ k = 0)) (h0 : 0 ≤ id) (hq : (id != 0 && id % 2 == k) = true) (hr : id < b) :
    Calls Tryd.prog 15 #[.agg #[.int .i64 f, .int .i64 b, .int .i64 n, .int .i64 m, .int .i64 t], .int .i64 id] w fun e w' => e = .returned (.tuple #[.agg #[.int .i64 f, .int .i64 b, .int .i64 n, .int .i64 m, .int .i64 t], .int .i64 9]) ∧ Aside (Keeps Nowhere w w') := by
  have O := Aside.mk (fun w => rOwn f b n m t id k w hf h0)
  have hz : ¬ f = 0 := by omega
  rw [hq] at O
  clear hq
  clear hf
  go_enter Tryd.func15, Tryd.ntmps15
  go_wp2_with (first | (go_at_call 22; refine (O.it _).mono ?_; rintro e w1 ⟨rfl, rfl⟩) | fail)
  all_goals first
    | (exfalso; omega)
    | skip
  go_returns
  exact ⟨rfl, ⟨(((Keeps.refl _ _).alloc _).alloc _).alloc _⟩⟩
theorem rSent9b (f b n m t id k : Int) (w : World) (hf : (f = 1 ∧ k = 1) ∨ (f = 2 ∧ k = 0)) (h0 : 0 ≤ id) (hq : (id != 0 && id % 2 == k) = true) (hr : ¬ id < b) (hr2 : n ≤ id) :
    Calls Tryd.prog 15 #[.agg #[.int .i64 f, .int .i64 b, .int .i64 n, .int .i64 m, .int .i64 t], .int .i64 id] w fun e w' => e = .returned (.tuple #[.agg #[.int .i64 f, .int .i64 b, .int .i64 n, .int .i64 m, .int .i64 t], .int .i64 9]) ∧ Aside (Keeps Nowhere w w') := by
  have O := Aside.mk (fun w => rOwn f b n m t id k w hf h0)
  have hz : ¬ f = 0 := by omega
  rw [hq] at O
  clear hq
  clear hf
  go_enter Tryd.func15, Tryd.ntmps15
  go_wp2_with (first | (go_at_call 22; refine (O.it _).mono ?_; rintro e w1 ⟨rfl, rfl⟩) | fail)
  all_goals first
    | (exfalso; omega)
    | skip
  go_returns
  exact ⟨rfl, ⟨(((Keeps.refl _ _).alloc _).alloc _).alloc _⟩⟩
theorem rSent19 (f b n m t id k : Int) (w : World) (hf : (f = 1 ∧ k = 1) ∨ (f = 2 ∧ k = 0)) (h0 : 0 ≤ id) (hq : (id != 0 && id % 2 == k) = true) (hr : ¬ id < b) (hr2 : ¬ n ≤ id) (hm : id ≤ m) :
    Calls Tryd.prog 15 #[.agg #[.int .i64 f, .int .i64 b, .int .i64 n, .int .i64 m, .int .i64 t], .int .i64 id] w fun e w' => e = .returned (.tuple #[.agg #[.int .i64 f, .int .i64 b, .int .i64 n, .int .i64 m, .int .i64 t], .int .i64 19]) ∧ Aside (Keeps Nowhere w w') := by
  have O := Aside.mk (fun w => rOwn f b n m t id k w hf h0)
  have hz : ¬ f = 0 := by omega
  rw [hq] at O
  clear hq
  clear hf
  go_enter Tryd.func15, Tryd.ntmps15
  go_wp2_with (first | (go_at_call 22; refine (O.it _).mono ?_; rintro e w1 ⟨rfl, rfl⟩) | fail)
  all_goals first
    | (exfalso; omega)
    | skip
  go_returns
  exact ⟨rfl, ⟨(((Keeps.refl _ _).alloc _).alloc _).alloc _⟩⟩
theorem rSent0 (f b n m t id k : Int) (w : World) (hf : (f = 1 ∧ k = 1) ∨ (f = 2 ∧ k = 0)) (h0 : 0 ≤ id) (hq : (id != 0 && id % 2 == k) = true) (hr : ¬ id < b) (hr2 : ¬ n ≤ id) (hm : ¬ id ≤ m) :
    Calls Tryd.prog 15 #[.agg #[.int .i64 f, .int .i64 b, .int .i64 n, .int .i64 m, .int .i64 t], .int .i64 id] w fun e w' => e = .returned (.tuple #[.agg #[.int .i64 f, .int .i64 b, .int .i64 n, .int .i64 id, .int .i64 t], .int .i64 0]) ∧ Aside (Keeps Nowhere w w') := by
  have O := Aside.mk (fun w => rOwn f b n m t id k w hf h0)
  have hz : ¬ f = 0 := by omega
  rw [hq] at O
  clear hq
  clear hf
  go_enter Tryd.func15, Tryd.ntmps15
  go_wp2_with (first | (go_at_call 22; refine (O.it _).mono ?_; rintro e w1 ⟨rfl, rfl⟩) | fail)
  all_goals first
    | (exfalso; omega)
    | skip
  go_returns
  exact ⟨rfl, ⟨(((Keeps.refl _ _).alloc _).alloc _).alloc _⟩⟩
theorem rHear14 (f b n m t id k : Int) (w : World) (hf : (f = 1 ∧ k = 1) ∨ (f = 2 ∧ k = 0)) (h0 : 0 ≤ id) (he : id = 0) :
    Calls Tryd.prog 17 #[.agg #[.int .i64 f, .int .i64 b, .int .i64 n, .int .i64 m, .int .i64 t], .int .i64 id] w fun e w' => e = .returned (.tuple #[.agg #[.int .i64 f, .int .i64 b, .int .i64 n, .int .i64 m, .int .i64 t], .int .i64 14]) ∧ Aside (Keeps Nowhere w w') := by
  have O := Aside.mk (fun w => rOwn f b n m t id k w hf h0)
  have hz : ¬ f = 0 := by omega
  clear hf
  go_enter Tryd.func17, Tryd.ntmps17
  go_wp2_with (first | (go_at_call 22; refine (O.it _).mono ?_; rintro e w1 ⟨rfl, rfl⟩) | fail)
  all_goals first
    | (exfalso; omega)
    | skip
  go_returns
  exact ⟨rfl, ⟨((Keeps.refl _ _).alloc _).alloc _⟩⟩
theorem rHear18 (f b n m t id k : Int) (w : World) (hf : (f = 1 ∧ k = 1) ∨ (f = 2 ∧ k = 0)) (h0 : 0 ≤ id) (he : ¬ id = 0) (hq : (id != 0 && id % 2 == k) = true) :
    Calls Tryd.prog 17 #[.agg #[.int .i64 f, .int .i64 b, .int .i64 n, .int .i64 m, .int .i64 t], .int .i64 id] w fun e w' => e = .returned (.tuple #[.agg #[.int .i64 f, .int .i64 b, .int .i64 n, .int .i64 m, .int .i64 t], .int .i64 18]) ∧ Aside (Keeps Nowhere w w') := by
  have O := Aside.mk (fun w => rOwn f b n m t id k w hf h0)
  have hz : ¬ f = 0 := by omega
  rw [hq] at O
  clear hq
  clear hf
  go_enter Tryd.func17, Tryd.ntmps17
  go_wp2_with (first | (go_at_call 22; refine (O.it _).mono ?_; rintro e w1 ⟨rfl, rfl⟩) | fail)
  all_goals first
    | (exfalso; omega)
    | skip
  go_returns
  exact ⟨rfl, ⟨(((Keeps.refl _ _).alloc _).alloc _).alloc _⟩⟩
theorem rHear19 (f b n m t id k : Int) (w : World) (hf : (f = 1 ∧ k = 1) ∨ (f = 2 ∧ k = 0)) (h0 : 0 ≤ id) (he : ¬ id = 0) (hq : (id != 0 && id % 2 == k) = false) (hm : id ≤ t) :
    Calls Tryd.prog 17 #[.agg #[.int .i64 f, .int .i64 b, .int .i64 n, .int .i64 m, .int .i64 t], .int .i64 id] w fun e w' => e = .returned (.tuple #[.agg #[.int .i64 f, .int .i64 b, .int .i64 n, .int .i64 m, .int .i64 t], .int .i64 19]) ∧ Aside (Keeps Nowhere w w') := by
  have O := Aside.mk (fun w => rOwn f b n m t id k w hf h0)
  have hz : ¬ f = 0 := by omega
  rw [hq] at O
  clear hq
  clear hf
  go_enter Tryd.func17, Tryd.ntmps17
  go_wp2_with (first | (go_at_call 22; refine (O.it _).mono ?_; rintro e w1 ⟨rfl, rfl⟩) | fail)
  all_goals first
    | (exfalso; omega)
    | skip
  go_returns
  exact ⟨rfl, ⟨(((Keeps.refl _ _).alloc _).alloc _).alloc _⟩⟩
theorem rHear0 (f b n m t id k : Int) (w : World) (hf : (f = 1 ∧ k = 1) ∨ (f = 2 ∧ k = 0)) (h0 : 0 ≤ id) (he : ¬ id = 0) (hq : (id != 0 && id % 2 == k) = false) (hm : ¬ id ≤ t) :
    Calls Tryd.prog 17 #[.agg #[.int .i64 f, .int .i64 b, .int .i64 n, .int .i64 m, .int .i64 t], .int .i64 id] w fun e w' => e = .returned (.tuple #[.agg #[.int .i64 f, .int .i64 b, .int .i64 n, .int .i64 m, .int .i64 id], .int .i64 0]) ∧ Aside (Keeps Nowhere w w') := by
  have O := Aside.mk (fun w => rOwn f b n m t id k w hf h0)
  have hz : ¬ f = 0 := by omega
  rw [hq] at O
  clear hq
  clear hf
  go_enter Tryd.func17, Tryd.ntmps17
  go_wp2_with (first | (go_at_call 22; refine (O.it _).mono ?_; rintro e w1 ⟨rfl, rfl⟩) | fail)
  all_goals first
    | (exfalso; omega)
    | skip
  go_returns
  exact ⟨rfl, ⟨(((Keeps.refl _ _).alloc _).alloc _).alloc _⟩⟩
theorem rKnownZ (f b n m t id k : Int) (w : World) (hf : (f = 1 ∧ k = 1) ∨ (f = 2 ∧ k = 0)) (h0 : 0 ≤ id) (he : id = 0) :
    Calls Tryd.prog 20 #[.agg #[.int .i64 f, .int .i64 b, .int .i64 n, .int .i64 m, .int .i64 t], .int .i64 id] w fun e w' => e = .returned (.bool false) ∧ Aside (Keeps Nowhere w w') := by
  have O := Aside.mk (fun w => rOwn f b n m t id k w hf h0)
  have hz : ¬ f = 0 := by omega
  clear hf
  go_enter Tryd.func20, Tryd.ntmps20
  go_wp2_with (first | (go_at_call 22; refine (O.it _).mono ?_; rintro e w1 ⟨rfl, rfl⟩) | fail)
  all_goals first
    | (exfalso; omega)
    | skip
  go_ret
  exact ⟨rfl, ⟨(Keeps.refl _ _).alloc _⟩⟩
theorem rKnownM (f b n m t id k : Int) (w : World) (hf : (f = 1 ∧ k = 1) ∨ (f = 2 ∧ k = 0)) (h0 : 0 ≤ id) (he : ¬ id = 0) (hq : (id != 0 && id % 2 == k) = true) :
    Calls Tryd.prog 20 #[.agg #[.int .i64 f, .int .i64 b, .int .i64 n, .int .i64 m, .int .i64 t], .int .i64 id] w fun e w' => e = .returned (.bool (decide (id ≤ m))) ∧ Aside (Keeps Nowhere w w') := by
  have O := Aside.mk (fun w => rOwn f b n m t id k w hf h0)
  have hz : ¬ f = 0 := by omega
  rw [hq] at O
  clear hq
  rcases hf with ⟨rfl, rfl⟩ | ⟨rfl, rfl⟩
  all_goals
    go_enter Tryd.func20, Tryd.ntmps20
    go_wp2_with (first | (go_at_call 22; refine (O.it _).mono ?_; rintro e w1 ⟨rfl, rfl⟩) | fail)
    all_goals first
      | (exfalso; omega)
      | (exfalso; simp_all; done)
      | skip
    go_ret
    exact ⟨rfl, ⟨((Keeps.refl _ _).alloc _).alloc _⟩⟩
theorem rKnownT (f b n m t id k : Int) (w : World) (hf : (f = 1 ∧ k = 1) ∨ (f = 2 ∧ k = 0)) (h0 : 0 ≤ id) (he : ¬ id = 0) (hq : (id != 0 && id % 2 == k) = false) :
    Calls Tryd.prog 20 #[.agg #[.int .i64 f, .int .i64 b, .int .i64 n, .int .i64 m, .int .i64 t], .int .i64 id] w fun e w' => e = .returned (.bool (decide (id ≤ t))) ∧ Aside (Keeps Nowhere w w') := by
  have O := Aside.mk (fun w => rOwn f b n m t id k w hf h0)
  have hz : ¬ f = 0 := by omega
  rw [hq] at O
  clear hq
  rcases hf with ⟨rfl, rfl⟩ | ⟨rfl, rfl⟩
  all_goals
    go_enter Tryd.func20, Tryd.ntmps20
    go_wp2_with (first | (go_at_call 22; refine (O.it _).mono ?_; rintro e w1 ⟨rfl, rfl⟩) | fail)
    all_goals first
      | (exfalso; omega)
      | (exfalso; simp_all; done)
      | skip
    go_ret
    exact ⟨rfl, ⟨((Keeps.refl _ _).alloc _).alloc _⟩⟩
end
end Go.Proofs.YthfedcebbnlmaaaDoor
