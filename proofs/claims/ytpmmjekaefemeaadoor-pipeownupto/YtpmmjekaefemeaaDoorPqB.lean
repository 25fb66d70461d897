/-
  the document's pipe (culvertref19): Left, Put, Move, Break
-/
import Derived.Test.YtpmmjekaefemeaaDoorPqA
namespace Go.Proofs.YtpmmjekaefemeaaDoor
open Go.RowKit

section
variable {own own' own1 : Nat → Nat} {w w' w1 W : World} {r b ALL : List Int} {v : Value} {G : Nat} {cut : Bool}

abbrev dz (v : Value) (G : Int) (cut : Bool) : Value := .agg #[v, .int .i64 G, .bool cut]
abbrev dzc (v : Value) (G : Int) (cut : Bool) : Obj := .cells #[v, .int .i64 G, .bool cut] 28
/-- what is under way -/
def und (ALL : List Int) (G : Nat) (cut : Bool) : List Int := if cut then [] else ALL.drop G

theorem dleft (v : Value) (hv : ∃ a c, v = .slice a ALL.length c) (hG : G ≤ ALL.length) (hm : ALL.length ≤ 2199023255551) (cut : Bool) :
    Calls Tryd.prog 25 #[dz v G cut] w fun e w' => e = .returned (.int .i64 (und ALL G cut).length) ∧ Aside (Keeps Nowhere w w') := by
  obtain ⟨a, c, rfl⟩ := hv
  have B0 := Cells.new w 28 [.slice a ALL.length c, .int .i64 G, .bool cut]
  have d0 := B0.cell 0
  have d1 := B0.cell 1
  have d2 := B0.cell 2
  simp only [List.getElem?_cons_zero, List.getElem?_cons_succ] at d0 d1 d2
  clear B0
  unfold und
  cases cut with
  | true =>
    go_enter Tryd.func25, Tryd.ntmps25
    go_wp2
    go_ret
    exact ⟨rfl, ⟨(Keeps.refl _ _).alloc _⟩⟩
  | false =>
    simp only [Bool.false_eq_true, if_false, List.length_drop]
    obtain ⟨N, hN⟩ : ∃ N, ALL.length = N := ⟨_, rfl⟩
    rw [hN] at d0 d1 d2 hG hm ⊢
    have i1 : (N : Int) - G = ((N - G : Nat) : Int) := by omega
    have i2 : ((N - G : Nat) : Int) ≤ 9223372036854775807 := by omega
    clear hN
    go_enter Tryd.func25, Tryd.ntmps25
    go_wp2
    go_ret
    exact ⟨by rw [← i1]; rfl, ⟨(Keeps.refl _ _).alloc _⟩⟩

/-- the two boxes of a call of the document's: its argument, its answer -/
structure Dz (w : World) (W : World) (bx : Nat) (v : Value) (G : Int) (cut : Bool) : Prop where
  k : Keeps Nowhere w W
  c1 : Cells W bx 28 [v, .int .i64 G, .bool cut]
  c2 : Cells W (bx + 1) 28 [.slice none 0 0, .int .i64 0, .bool false]
  b : w.heap.size = bx
theorem Dz.start (w : World) (v : Value) (G : Int) (cut : Bool) : Dz w ((w.alloc (dzc v G cut)).alloc (dzc (.slice none 0 0) 0 false)) w.heap.size v G cut := by
  refine ⟨((Keeps.refl _ _).alloc _).alloc _, (Cells.new w _ _).later (S := Nowhere) ((Keeps.refl _ _).alloc _) (fun x => x), ?_, rfl⟩
  have h := Cells.new (w.alloc (dzc v G cut)) 28 [.slice none 0 0, .int .i64 0, .bool false]
  rw [World.size_alloc] at h
  exact h
theorem Dz.quiet {bx : Nat} {G : Int} (h : Dz w W bx v G cut) (hk : Keeps Nowhere W w') : Dz w w' bx v G cut := ⟨h.k.trans hk, h.c1.later hk (fun x => x), h.c2.later hk (fun x => x), h.b⟩
theorem Dz.cells {bx : Nat} {G : Int} (h : Dz w W bx v G cut) : W.cell? ⟨bx, 0, none⟩ = some v ∧ W.cell? ⟨bx, 1, none⟩ = some (.int .i64 G) ∧ W.cell? ⟨bx, 2, none⟩ = some (.bool cut) ∧ W.cell? ⟨bx + 1, 0, none⟩ = some (.slice none 0 0) ∧ W.cell? ⟨bx + 1, 1, none⟩ = some (.int .i64 0) ∧ W.cell? ⟨bx + 1, 2, none⟩ = some (.bool false) ∧ W.frozen? ⟨bx, 0, none⟩ = false ∧ W.frozen? ⟨bx, 1, none⟩ = false ∧ W.frozen? ⟨bx, 2, none⟩ = false ∧ W.frozen? ⟨bx + 1, 0, none⟩ = false ∧ W.frozen? ⟨bx + 1, 1, none⟩ = false ∧ W.frozen? ⟨bx + 1, 2, none⟩ = false :=
  ⟨by rw [h.c1.cell]; rfl, by rw [h.c1.cell]; rfl, by rw [h.c1.cell]; rfl, by rw [h.c2.cell]; rfl, by rw [h.c2.cell]; rfl, by rw [h.c2.cell]; rfl, h.c1.frozen 0, h.c1.frozen 1, h.c1.frozen 2, h.c2.frozen 0, h.c2.frozen 1, h.c2.frozen 2⟩
/-- the argument, written over, is answered -/
theorem Dz.fin {bx : Nat} {G G' : Int} {v' : Value} {cut' : Bool} (h : Dz w W bx v G cut) (hk : Keeps (fun k => k = bx) W w1) (_h1 : Cells w1 bx 28 [v', .int .i64 G', .bool cut']) :
    ∃ F, F = (((w1.setCell ⟨bx + 1, 0, none⟩ v').setCell ⟨bx + 1, 1, none⟩ (.int .i64 G')).setCell ⟨bx + 1, 2, none⟩ (.bool cut')) ∧ F.cell? ⟨bx + 1, 0, none⟩ = some v' ∧ F.cell? ⟨bx + 1, 1, none⟩ = some (.int .i64 G') ∧ F.cell? ⟨bx + 1, 2, none⟩ = some (.bool cut') ∧ Aside (Keeps Nowhere w F) ∧ Aside (Keeps (fun k => k = bx ∨ k = bx + 1) W F) := by
  have c2 : Cells w1 (bx + 1) 28 [.slice none 0 0, .int .i64 0, .bool false] := h.c2.later hk (by omega)
  have x2 := ((c2.setCell 0 v').setCell 1 (.int .i64 G')).setCell 2 (.bool cut')
  have kk : Keeps (fun k => k = bx + 1) w1 (((w1.setCell ⟨bx + 1, 0, none⟩ v').setCell ⟨bx + 1, 1, none⟩ (.int .i64 G')).setCell ⟨bx + 1, 2, none⟩ (.bool cut')) := (((Keeps.refl (fun k => k = bx + 1) w1).setCell ⟨bx + 1, 0, none⟩ v' (fun _ => rfl)).setCell ⟨bx + 1, 1, none⟩ (.int .i64 G') (fun _ => rfl)).setCell ⟨bx + 1, 2, none⟩ (.bool cut') (fun _ => rfl)
  exact ⟨_, rfl, x2.cell 0, x2.cell 1, x2.cell 2, ⟨(h.k.next hk (fun k e hlt => by have := h.b; omega)).next kk (fun k e hlt => by have := h.b; omega)⟩, ⟨(hk.mono (fun _ e _ => .inl e)).trans (kk.mono (fun _ e _ => .inr e))⟩⟩
/-- a row that was made between -/
theorem Dz.row {bx : Nat} {G : Int} {W0 F : World} {x : Value} {ns : List Int} (h : Dz w W0 bx v G cut) (hr : OwnB W0.heap.size W x ns) (hF : Keeps (fun k => k = bx ∨ k = bx + 1) W F) (hk : Keeps Nowhere w F) : Nw w F x ns := by
  have hlt := h.c2.lt
  refine ⟨OwnB.mono (owns_later hr hF (fun b hb e => ?_)) h.k.size, hk⟩
  have := owns_base hr b hb
  omega

theorem dbreak (v : Value) (hv : ∃ a c, v = .slice a ALL.length c) (hG : G ≤ ALL.length) (hm : ALL.length ≤ 2199023255551) (cut : Bool) :
    Calls Tryd.prog 26 #[dz v G cut] w fun e w' => e = .returned (.tuple #[dz v G true, .int .i64 (und ALL G cut).length]) ∧ Aside (Keeps Nowhere w w') := by
  have X := Aside.mk (Dz.start w v G cut)
  have DL := Aside.mk (fun W => dleft (w := W) v hv hG hm cut)
  obtain ⟨a, c, rfl⟩ := hv
  obtain ⟨N, hN⟩ : ∃ N, ALL.length = N := ⟨_, rfl⟩
  obtain ⟨M, hM⟩ : ∃ M, (und ALL G cut).length = M := ⟨_, rfl⟩
  rw [hN, hM] at DL
  rw [hN] at X
  rw [hN, hM]
  obtain ⟨bx, hbx⟩ : ∃ bx, w.heap.size = bx := ⟨_, rfl⟩
  obtain ⟨W1, hW1⟩ : ∃ W1, ((w.alloc (dzc (.slice a N c) G cut)).alloc (dzc (.slice none 0 0) 0 false)) = W1 := ⟨_, rfl⟩
  rw [hW1, hbx] at X
  obtain ⟨d0, d1, d2, _⟩ := X.it.cells
  clear hN hM hm hG
  go_enter Tryd.func26, Tryd.ntmps26
  go_upto_region 1 with fail
  clear hW1 hbx
  go_upto_region 2 with (go_at_call 25; refine (DL.it _).mono ?_; rintro e w2 ⟨rfl, K2⟩)
  have X2 : Aside (Dz w w2 bx (.slice a N c) G cut) := ⟨X.it.quiet K2.it⟩
  clear X d0 d1 d2 DL
  obtain ⟨d0, d1, d2, e0, e1, e2, f0, f1, f2, g0, g1, g2⟩ := X2.it.cells
  have C1 := Aside.mk (X2.it.c1.setCell 2 (.bool true))
  go_wp2_with fail
  obtain ⟨F, hF, q0, q1, q2, KF, _⟩ := X2.it.fin (w1 := w2.setCell ⟨bx, 2, none⟩ (.bool true)) ((Keeps.refl _ _).setCell _ _ (fun _ => rfl)) C1.it
  rw [← hF]
  refine bodyPost_ret (v := .tuple #[dz (.slice a N c) G true, .int .i64 M]) (by simp [results, Tryd.results26, go_sem, q0, q1, q2]) rfl ?_
  exact ⟨rfl, KF⟩
end
end Go.Proofs.YtpmmjekaefemeaaDoor
