/-
  culvertref03: New, Put
-/
import Derived.Test.YtnljgklmaljfjaaDoorRef03b
namespace Go.Proofs.YtnljgklmaljfjaaDoor
open Go.RowKit Fint

theorem refNew_bad (w : World) (t r : Int) (hn : t < 0 ∨ r < 0) : Calls Tryd.prog 7 #[.int .i64 t, .int .i64 r] w fun e w' => e = .returned (.tuple #[.agg #[.int .i64 0, .int .i64 0, .slice none 0 0], .int .i64 2]) ∧ Aside (Keeps Nowhere w w') := by
  rcases Int.lt_or_le t 0 with h | h
  · clear hn
    go_enter Tryd.func7, Tryd.ntmps7
    go_wp2
    refine bodyPost_ret (v := .tuple #[.agg #[.int .i64 0, .int .i64 0, .slice none 0 0], .int .i64 2]) (by simp [results, Tryd.results7, go_sem]) rfl ?_
    exact ⟨rfl, ⟨(Keeps.refl _ _).alloc _⟩⟩
  · have h' : r < 0 := by omega
    clear hn
    go_enter Tryd.func7, Tryd.ntmps7
    go_wp2
    refine bodyPost_ret (v := .tuple #[.agg #[.int .i64 0, .int .i64 0, .slice none 0 0], .int .i64 2]) (by simp [results, Tryd.results7, go_sem]) rfl ?_
    exact ⟨rfl, ⟨(Keeps.refl _ _).alloc _⟩⟩
theorem refNew_good (w : World) (t r : Nat) : Calls Tryd.prog 7 #[.int .i64 t, .int .i64 r] w fun e w' => e = .returned (.tuple #[.agg #[.int .i64 t, .int .i64 r, .slice none 0 0], .int .i64 0]) ∧ Aside (Keeps Nowhere w w') := by
  go_enter Tryd.func7, Tryd.ntmps7
  go_wp2
  refine bodyPost_ret (v := .tuple #[.agg #[.int .i64 t, .int .i64 r, .slice none 0 0], .int .i64 0]) (by simp [results, Tryd.results7, go_sem]) rfl ?_
  exact ⟨rfl, ⟨(Keeps.refl _ _).alloc _⟩⟩

/-- what a call on the document's queue answers: a queue whose list is read -/
structure RefAns (w w' : World) (s s' : Value) (l' : Things) : Prop where
  reads : ReadsK 2 w' s' l'.length (flat l')
  own : ∀ k, s'.ownBlock = some k → s.ownBlock = some k ∨ w.heap.size ≤ k
  keeps : Keeps Nowhere w w'
  lt : ∀ k, s'.ownBlock = some k → k < w'.heap.size

theorem refPut_range (w : World) (rt rw : Nat) (a : Option Addr) (l c : Nat) (x n : Int) (hn : n < 0) :
    Calls Tryd.prog 9 #[.agg #[.int .i64 rt, .int .i64 rw, .slice a l c], .int .i64 x, .int .i64 n] w fun e w' => e = .returned (.tuple #[.agg #[.int .i64 rt, .int .i64 rw, .slice a l c], .int .i64 2]) ∧ Aside (Keeps Nowhere w w') := by
  go_enter Tryd.func9, Tryd.ntmps9
  go_wp2
  refine bodyPost_ret (v := .tuple #[.agg #[.int .i64 rt, .int .i64 rw, .slice a l c], .int .i64 2]) (by simp [results, Tryd.results9, go_sem]) rfl ?_
  exact ⟨rfl, ⟨((Keeps.refl _ _).alloc _).alloc _⟩⟩
theorem refPut_full (w : World) (rt rw : Nat) (a : Option Addr) (c : Nat) (l : Things) (x : Int) (n : Nat) (hr : ReadsK 2 w (.slice a l.length c) l.length (flat l)) (hs : sumW l ≤ rw) (hrw : rw ≤ 9223372036854775807) (hn : rt ≤ l.length ∨ rw < sumW l + n) :
    Calls Tryd.prog 9 #[.agg #[.int .i64 rt, .int .i64 rw, .slice a l.length c], .int .i64 x, .int .i64 n] w fun e w' => e = .returned (.tuple #[.agg #[.int .i64 rt, .int .i64 rw, .slice a l.length c], .int .i64 6]) ∧ Aside (Keeps Nowhere w w') := by
  obtain ⟨W1, hW1⟩ : ∃ W1, W1 = (w.alloc (.cells #[.int .i64 rt, .int .i64 rw, .slice a l.length c] 35)).alloc (.cells #[.int .i64 0, .int .i64 0, .slice none 0 0] 35) := ⟨_, rfl⟩
  have K1 : Aside (Keeps Nowhere w W1) := ⟨by rw [hW1]; exact ((Keeps.refl _ _).alloc _).alloc _⟩
  have C0 : Aside (Cells W1 w.heap.size 35 [.int .i64 rt, .int .i64 rw, .slice a l.length c]) := ⟨by rw [hW1]; exact (Cells.new w _ _).later (S := Nowhere) ((Keeps.refl _ _).alloc _) (fun x => x)⟩
  have C1 : Aside (Cells W1 (w.heap.size + 1) 35 [.int .i64 0, .int .i64 0, .slice none 0 0]) := ⟨by
    have h := Cells.new (w.alloc (.cells #[.int .i64 rt, .int .i64 rw, .slice a l.length c] 35)) 35 [.int .i64 0, .int .i64 0, .slice none 0 0]
    rw [World.size_alloc] at h
    rw [hW1]; exact h⟩
  have SM := hide (refSum_ok W1 rt rw _ l (hr.later K1.it (fun _ _ x => x)) (Nat.le_trans hs hrw))
  clear hr
  obtain ⟨N, hN⟩ : ∃ N, N = l.length := ⟨_, rfl⟩
  obtain ⟨t, ht⟩ : ∃ t, t = sumW l := ⟨_, rfl⟩
  rw [← hN] at hW1 C0 SM hn ⊢
  rw [← ht] at SM hn hs
  clear hN ht
  have d0 : W1.cell? ⟨w.heap.size, 0, none⟩ = some (.int .i64 rt) := by rw [C0.it.cell]; rfl
  have d1 : W1.cell? ⟨w.heap.size, 1, none⟩ = some (.int .i64 rw) := by rw [C0.it.cell]; rfl
  have d2 : W1.cell? ⟨w.heap.size, 2, none⟩ = some (.slice a N c) := by rw [C0.it.cell]; rfl
  have hn0 : (0 : Int) ≤ n := by omega
  go_enter Tryd.func9, Tryd.ntmps9
  go_wp2_with fail
  rw [← hW1]
  have HW1 : Aside _ := ⟨hW1⟩
  clear hW1
  go_wp2_with fail
  refine SM.out.mono ?_
  rintro e w2 ⟨rfl, k2⟩
  have c0 := C0.it.later k2.it (fun x => x)
  have c1 := C1.it.later k2.it (fun x => x)
  have e0 : w2.cell? ⟨w.heap.size, 0, none⟩ = some (.int .i64 rt) := by rw [c0.cell]; rfl
  have e1 : w2.cell? ⟨w.heap.size, 1, none⟩ = some (.int .i64 rw) := by rw [c0.cell]; rfl
  have e2 : w2.cell? ⟨w.heap.size, 2, none⟩ = some (.slice a N c) := by rw [c0.cell]; rfl
  have f0 : w2.cell? ⟨w.heap.size + 1, 0, none⟩ = some (.int .i64 0) := by rw [c1.cell]; rfl
  have f1 : w2.cell? ⟨w.heap.size + 1, 1, none⟩ = some (.int .i64 0) := by rw [c1.cell]; rfl
  have f2 : w2.cell? ⟨w.heap.size + 1, 2, none⟩ = some (.slice none 0 0) := by rw [c1.cell]; rfl
  have z0 := c1.frozen 0
  have z1 := c1.frozen 1
  have z2 := c1.frozen 2
  have E1 : Aside _ := ⟨c1⟩
  clear c0 c1 d0 d1 d2
  have key : ∀ W, W = ((w2.setCell ⟨w.heap.size + 1, 0, none⟩ (.int .i64 rt)).setCell ⟨w.heap.size + 1, 1, none⟩ (.int .i64 rw)).setCell ⟨w.heap.size + 1, 2, none⟩ (.slice a N c) → Aside (Cells W (w.heap.size + 1) 35 [.int .i64 rt, .int .i64 rw, .slice a N c] ∧ Keeps Nowhere w W) := by
    rintro W rfl
    refine ⟨((E1.it.setCell 0 (.int .i64 rt)).setCell 1 (.int .i64 rw)).setCell 2 (.slice a N c), ?_⟩
    exact (((K1.it.trans k2.it).setCell _ _ (fun h => absurd h (by simp))).setCell _ _ (fun h => absurd h (by simp))).setCell _ _ (fun h => absurd h (by simp))
  have KEY : Aside _ := ⟨key⟩
  clear key
  rcases Nat.lt_or_ge N rt with hl | hl
  · have hn' : (rw : Int) - t < n := by omega
    clear hn
    go_wp2
    all_goals first
      | (exfalso; omega)
      | skip
    obtain ⟨W, hW⟩ : ∃ W, W = ((w2.setCell ⟨w.heap.size + 1, 0, none⟩ (.int .i64 rt)).setCell ⟨w.heap.size + 1, 1, none⟩ (.int .i64 rw)).setCell ⟨w.heap.size + 1, 2, none⟩ (.slice a N c) := ⟨_, rfl⟩
    rw [← hW]
    obtain ⟨hC, hK⟩ := (KEY.it W hW).it
    have r0 : W.cell? ⟨w.heap.size + 1, 0, none⟩ = some (.int .i64 rt) := by rw [hC.cell]; rfl
    have r1 : W.cell? ⟨w.heap.size + 1, 1, none⟩ = some (.int .i64 rw) := by rw [hC.cell]; rfl
    have r2 : W.cell? ⟨w.heap.size + 1, 2, none⟩ = some (.slice a N c) := by rw [hC.cell]; rfl
    refine bodyPost_ret (v := .tuple #[.agg #[.int .i64 rt, .int .i64 rw, .slice a N c], .int .i64 6]) (by simp [results, Tryd.results9, go_sem, r0, r1, r2]) rfl ?_
    exact ⟨rfl, ⟨hK⟩⟩
  · have hl' : (rt : Int) ≤ N := by omega
    clear hn
    go_wp2
    all_goals first
      | (exfalso; omega)
      | skip
    obtain ⟨W, hW⟩ : ∃ W, W = ((w2.setCell ⟨w.heap.size + 1, 0, none⟩ (.int .i64 rt)).setCell ⟨w.heap.size + 1, 1, none⟩ (.int .i64 rw)).setCell ⟨w.heap.size + 1, 2, none⟩ (.slice a N c) := ⟨_, rfl⟩
    rw [← hW]
    obtain ⟨hC, hK⟩ := (KEY.it W hW).it
    have r0 : W.cell? ⟨w.heap.size + 1, 0, none⟩ = some (.int .i64 rt) := by rw [hC.cell]; rfl
    have r1 : W.cell? ⟨w.heap.size + 1, 1, none⟩ = some (.int .i64 rw) := by rw [hC.cell]; rfl
    have r2 : W.cell? ⟨w.heap.size + 1, 2, none⟩ = some (.slice a N c) := by rw [hC.cell]; rfl
    refine bodyPost_ret (v := .tuple #[.agg #[.int .i64 rt, .int .i64 rw, .slice a N c], .int .i64 6]) (by simp [results, Tryd.results9, go_sem, r0, r1, r2]) rfl ?_
    exact ⟨rfl, ⟨hK⟩⟩
end Go.Proofs.YtnljgklmaljfjaaDoor
