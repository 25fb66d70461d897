/-
  package stream: View.
-/
import Derived.Test.YteghehhifebhcaaDoorOStmD
namespace Go.Proofs.YteghehhifebhcaaDoor
open Go.RowKit

section
variable {own own' : Nat → Nat} {i : Nat} {w w' w0 wS : World} {p q : Nat} {A : Nat → Addr} {u : Int} {d : Dm} {cu : Bool} {sx cx ux rx : Value}
theorem leftR {x : Value} {off : Bool} {W : Nat} {l u o : Int} (h : RcvV own i w x off W l u o) : Calls Tryd.prog 50 #[x] w fun e w' => e = .returned (.int .i64 (if off then 0 else l)) ∧ Aside (Keeps Nowhere w w') := by
  rcases h with ⟨rfl, rfl⟩ | ⟨rfl, q, rfl, h⟩
  · exact left_nil w
  · exact left_at h.cnt
theorem owedR {x : Value} {off : Bool} {W : Nat} {l u o : Int} (h : RcvV own i w x off W l u o) : Calls Tryd.prog 51 #[x] w fun e w' => e = .returned (.int .i64 (if off then 0 else o)) ∧ Aside (Keeps Nowhere w w') := by
  rcases h with ⟨rfl, rfl⟩ | ⟨rfl, q, rfl, h⟩
  · exact owed_nil w
  · exact owed_at h.cnt
def viewL (d : Dm) : List Value := [.int .u32 d.id, .int .i64 d.state, .bool d.mine, .bool d.acc, .int .i64 d.staged.length, .int .u32 d.vCredit, .int .i64 d.vLeft, .int .i64 d.unread.length, .int .i64 d.vOwed, .bool d.closing, .bool d.told]
def viewZ : List Value := [.int .u32 0, .int .i64 0, .bool false, .bool false, .int .i64 0, .int .u32 0, .int .i64 0, .int .i64 0, .int .i64 0, .bool false, .bool false]
theorem view_nil (w : World) : Calls Tryd.prog 22 #[.pointer none] w fun e w' => e = .returned (.agg viewZ.toArray) ∧ Aside (Keeps Nowhere w w') := by
  go_enter Tryd.func22, Tryd.ntmps22
  go_wp2
  go_returns
  exact ⟨rfl, ⟨Keeps.ofBelow (by go_grown)⟩⟩
/-- View's world: the stream, the answer's box q -/
structure Vw (own : Nat → Nat) (i : Nat) (wS : World) (p : Nat) (d : Dm) (cu : Bool) (u : Int) (sx cx ux rx : Value) (q : Nat) (w : World) : Prop where
  s : StmO own i w p d cu u sx cx ux rx
  z : Cells w q 70 viewZ
  k : Keeps Nowhere wS w
  q1 : q = wS.heap.size
  p1 : p < wS.heap.size
theorem Vw.quiet (h : Aside (Vw own i wS p d cu u sx cx ux rx q w)) (k : Keeps Nowhere w w') : Aside (Vw own i wS p d cu u sx cx ux rx q w') :=
  ⟨⟨h.it.s.quiet k, h.it.z.later k (fun x => x), h.it.k.trans k, h.it.q1, h.it.p1⟩⟩
theorem vw_lenS (h : Aside (Vw own i wS p d cu u sx cx ux rx q w)) : Calls Tryd.prog 46 #[sx] w fun e w' => e = .returned (.int .i64 d.staged.length) ∧ w' = w := st_len h.it.s
theorem vw_lenU (h : Aside (Vw own i wS p d cu u sx cx ux rx q w)) : Calls Tryd.prog 46 #[ux] w fun e w' => e = .returned (.int .i64 d.unread.length) ∧ w' = w := un_len h.it.s
theorem vw_have (h : Aside (Vw own i wS p d cu u sx cx ux rx q w)) : Calls Tryd.prog 47 #[cx] w fun e w' => e = .returned (.int .u32 d.vCredit) ∧ w' = w := haveV h.it.s.pt.crd
theorem vw_left (h : Aside (Vw own i wS p d cu u sx cx ux rx q w)) : Calls Tryd.prog 50 #[rx] w fun e w' => e = .returned (.int .i64 d.vLeft) ∧ Aside (Vw own i wS p d cu u sx cx ux rx q w') :=
  (leftR h.it.s.pt.wnd).mono (fun _ _ x => ⟨x.1, Vw.quiet h x.2.it⟩)
theorem vw_owed (h : Aside (Vw own i wS p d cu u sx cx ux rx q w)) : Calls Tryd.prog 51 #[rx] w fun e w' => e = .returned (.int .i64 d.vOwed) ∧ Aside (Vw own i wS p d cu u sx cx ux rx q w') :=
  (owedR h.it.s.pt.wnd).mono (fun _ _ x => ⟨x.1, Vw.quiet h x.2.it⟩)
theorem Vw.cells (h : Aside (Vw own i wS p d cu u sx cx ux rx q w)) : w.cell? ⟨p, 0, none⟩ = some (.int .u32 d.id) ∧ w.cell? ⟨p, 2, none⟩ = some (.bool d.mine) ∧ w.cell? ⟨p, 3, none⟩ = some (.int .i64 d.state) ∧
    w.cell? ⟨p, 4, none⟩ = some (.bool d.acc) ∧ w.cell? ⟨p, 5, none⟩ = some (.bool d.closing) ∧ w.cell? ⟨p, 6, none⟩ = some (.bool d.told) ∧
    w.cell? ⟨p, 8, none⟩ = some sx ∧ w.cell? ⟨p, 9, none⟩ = some cx ∧ w.cell? ⟨p, 10, none⟩ = some ux ∧ w.cell? ⟨p, 11, none⟩ = some rx := by
  have := h.it.s.box.1.cell
  exact ⟨this 0, this 2, this 3, this 4, this 5, this 6, this 8, this 9, this 10, this 11⟩
theorem Vw.cells2 (h : Aside (Vw own i wS p d cu u sx cx ux rx q w)) (v0 v1 v2 v3 v4 v5 v6 v7 v8 v9 v10 : Value) : (((((((((((w.setCell ⟨q, 0, none⟩ v0).setCell ⟨q, 1, none⟩ v1).setCell ⟨q, 2, none⟩ v2).setCell ⟨q, 3, none⟩ v3).setCell ⟨q, 4, none⟩ v4).setCell ⟨q, 5, none⟩ v5).setCell ⟨q, 6, none⟩ v6).setCell ⟨q, 7, none⟩ v7).setCell ⟨q, 8, none⟩ v8).setCell ⟨q, 9, none⟩ v9).setCell ⟨q, 10, none⟩ v10).cell? ⟨p, 0, none⟩ = some (.int .u32 d.id) ∧ (((((((((((w.setCell ⟨q, 0, none⟩ v0).setCell ⟨q, 1, none⟩ v1).setCell ⟨q, 2, none⟩ v2).setCell ⟨q, 3, none⟩ v3).setCell ⟨q, 4, none⟩ v4).setCell ⟨q, 5, none⟩ v5).setCell ⟨q, 6, none⟩ v6).setCell ⟨q, 7, none⟩ v7).setCell ⟨q, 8, none⟩ v8).setCell ⟨q, 9, none⟩ v9).setCell ⟨q, 10, none⟩ v10).cell? ⟨p, 2, none⟩ = some (.bool d.mine) ∧ (((((((((((w.setCell ⟨q, 0, none⟩ v0).setCell ⟨q, 1, none⟩ v1).setCell ⟨q, 2, none⟩ v2).setCell ⟨q, 3, none⟩ v3).setCell ⟨q, 4, none⟩ v4).setCell ⟨q, 5, none⟩ v5).setCell ⟨q, 6, none⟩ v6).setCell ⟨q, 7, none⟩ v7).setCell ⟨q, 8, none⟩ v8).setCell ⟨q, 9, none⟩ v9).setCell ⟨q, 10, none⟩ v10).cell? ⟨p, 3, none⟩ = some (.int .i64 d.state) ∧ (((((((((((w.setCell ⟨q, 0, none⟩ v0).setCell ⟨q, 1, none⟩ v1).setCell ⟨q, 2, none⟩ v2).setCell ⟨q, 3, none⟩ v3).setCell ⟨q, 4, none⟩ v4).setCell ⟨q, 5, none⟩ v5).setCell ⟨q, 6, none⟩ v6).setCell ⟨q, 7, none⟩ v7).setCell ⟨q, 8, none⟩ v8).setCell ⟨q, 9, none⟩ v9).setCell ⟨q, 10, none⟩ v10).cell? ⟨p, 4, none⟩ = some (.bool d.acc) ∧ (((((((((((w.setCell ⟨q, 0, none⟩ v0).setCell ⟨q, 1, none⟩ v1).setCell ⟨q, 2, none⟩ v2).setCell ⟨q, 3, none⟩ v3).setCell ⟨q, 4, none⟩ v4).setCell ⟨q, 5, none⟩ v5).setCell ⟨q, 6, none⟩ v6).setCell ⟨q, 7, none⟩ v7).setCell ⟨q, 8, none⟩ v8).setCell ⟨q, 9, none⟩ v9).setCell ⟨q, 10, none⟩ v10).cell? ⟨p, 5, none⟩ = some (.bool d.closing) ∧ (((((((((((w.setCell ⟨q, 0, none⟩ v0).setCell ⟨q, 1, none⟩ v1).setCell ⟨q, 2, none⟩ v2).setCell ⟨q, 3, none⟩ v3).setCell ⟨q, 4, none⟩ v4).setCell ⟨q, 5, none⟩ v5).setCell ⟨q, 6, none⟩ v6).setCell ⟨q, 7, none⟩ v7).setCell ⟨q, 8, none⟩ v8).setCell ⟨q, 9, none⟩ v9).setCell ⟨q, 10, none⟩ v10).cell? ⟨p, 6, none⟩ = some (.bool d.told) ∧ (((((((((((w.setCell ⟨q, 0, none⟩ v0).setCell ⟨q, 1, none⟩ v1).setCell ⟨q, 2, none⟩ v2).setCell ⟨q, 3, none⟩ v3).setCell ⟨q, 4, none⟩ v4).setCell ⟨q, 5, none⟩ v5).setCell ⟨q, 6, none⟩ v6).setCell ⟨q, 7, none⟩ v7).setCell ⟨q, 8, none⟩ v8).setCell ⟨q, 9, none⟩ v9).setCell ⟨q, 10, none⟩ v10).cell? ⟨p, 8, none⟩ = some sx ∧ (((((((((((w.setCell ⟨q, 0, none⟩ v0).setCell ⟨q, 1, none⟩ v1).setCell ⟨q, 2, none⟩ v2).setCell ⟨q, 3, none⟩ v3).setCell ⟨q, 4, none⟩ v4).setCell ⟨q, 5, none⟩ v5).setCell ⟨q, 6, none⟩ v6).setCell ⟨q, 7, none⟩ v7).setCell ⟨q, 8, none⟩ v8).setCell ⟨q, 9, none⟩ v9).setCell ⟨q, 10, none⟩ v10).cell? ⟨p, 9, none⟩ = some cx ∧ (((((((((((w.setCell ⟨q, 0, none⟩ v0).setCell ⟨q, 1, none⟩ v1).setCell ⟨q, 2, none⟩ v2).setCell ⟨q, 3, none⟩ v3).setCell ⟨q, 4, none⟩ v4).setCell ⟨q, 5, none⟩ v5).setCell ⟨q, 6, none⟩ v6).setCell ⟨q, 7, none⟩ v7).setCell ⟨q, 8, none⟩ v8).setCell ⟨q, 9, none⟩ v9).setCell ⟨q, 10, none⟩ v10).cell? ⟨p, 10, none⟩ = some ux ∧ (((((((((((w.setCell ⟨q, 0, none⟩ v0).setCell ⟨q, 1, none⟩ v1).setCell ⟨q, 2, none⟩ v2).setCell ⟨q, 3, none⟩ v3).setCell ⟨q, 4, none⟩ v4).setCell ⟨q, 5, none⟩ v5).setCell ⟨q, 6, none⟩ v6).setCell ⟨q, 7, none⟩ v7).setCell ⟨q, 8, none⟩ v8).setCell ⟨q, 9, none⟩ v9).setCell ⟨q, 10, none⟩ v10).cell? ⟨p, 11, none⟩ = some rx := by
  have ne : p ≠ q := by have := h.it.p1; have := h.it.q1; omega
  have := (((((((((((h.it.s.box.1.setOther ⟨q, 0, none⟩ v0 ne).setOther ⟨q, 1, none⟩ v1 ne).setOther ⟨q, 2, none⟩ v2 ne).setOther ⟨q, 3, none⟩ v3 ne).setOther ⟨q, 4, none⟩ v4 ne).setOther ⟨q, 5, none⟩ v5 ne).setOther ⟨q, 6, none⟩ v6 ne).setOther ⟨q, 7, none⟩ v7 ne).setOther ⟨q, 8, none⟩ v8 ne).setOther ⟨q, 9, none⟩ v9 ne).setOther ⟨q, 10, none⟩ v10 ne).cell
  exact ⟨this 0, this 2, this 3, this 4, this 5, this 6, this 8, this 9, this 10, this 11⟩
theorem Vw.res (h : Aside (Vw own i wS p d cu u sx cx ux rx q w)) : w.cell? ⟨q, 0, none⟩ = some (.int .u32 0) ∧ w.cell? ⟨q, 1, none⟩ = some (.int .i64 0) ∧ w.cell? ⟨q, 2, none⟩ = some (.bool false) ∧ w.cell? ⟨q, 3, none⟩ = some (.bool false) ∧ w.cell? ⟨q, 4, none⟩ = some (.int .i64 0) ∧ w.cell? ⟨q, 5, none⟩ = some (.int .u32 0) ∧ w.cell? ⟨q, 6, none⟩ = some (.int .i64 0) ∧ w.cell? ⟨q, 7, none⟩ = some (.int .i64 0) ∧ w.cell? ⟨q, 8, none⟩ = some (.int .i64 0) ∧ w.cell? ⟨q, 9, none⟩ = some (.bool false) ∧ w.cell? ⟨q, 10, none⟩ = some (.bool false) ∧ w.frozen? ⟨q, 0, none⟩ = false ∧ w.frozen? ⟨q, 1, none⟩ = false ∧ w.frozen? ⟨q, 2, none⟩ = false ∧ w.frozen? ⟨q, 3, none⟩ = false ∧ w.frozen? ⟨q, 4, none⟩ = false ∧ w.frozen? ⟨q, 5, none⟩ = false ∧ w.frozen? ⟨q, 6, none⟩ = false ∧ w.frozen? ⟨q, 7, none⟩ = false ∧ w.frozen? ⟨q, 8, none⟩ = false ∧ w.frozen? ⟨q, 9, none⟩ = false ∧ w.frozen? ⟨q, 10, none⟩ = false := by
  have c := h.it.z.cell
  have f := h.it.z.frozen
  exact ⟨c 0, c 1, c 2, c 3, c 4, c 5, c 6, c 7, c 8, c 9, c 10, f 0, f 1, f 2, f 3, f 4, f 5, f 6, f 7, f 8, f 9, f 10⟩
set_option maxHeartbeats 4000000 in
theorem view_at (h : StmO own i w p d cu u sx cx ux rx) : Calls Tryd.prog 22 #[ptr p] w fun e w' => e = .returned (.agg (viewL d).toArray) ∧ Aside (Keeps Nowhere w w') := by
  obtain ⟨w1, hw1⟩ : ∃ w1, w1 = w.alloc (.cells viewZ.toArray 70) := ⟨_, rfl⟩
  have K : Keeps Nowhere w w1 := by rw [hw1]; exact (Keeps.refl _ _).alloc _
  have C : Cells w1 w.heap.size 70 viewZ := by rw [hw1]; exact Cells.new w _ _
  have V1 : Aside (Vw own i w p d cu u sx cx ux rx w.heap.size w1) := ⟨⟨h.quiet K, C, K, rfl, h.box.1.lt⟩⟩
  clear h K C
  unfold viewZ at hw1
  go_enter Tryd.func22, Tryd.ntmps22
  go_upto_region 1 with fail
  rw [← hw1]
  obtain ⟨q, hq⟩ : ∃ q, q = w.heap.size := ⟨_, rfl⟩
  rw [← hq] at V1 ⊢
  clear hw1 hq
  go_upto_region 3 with fail
  have V2 : Aside (Vw own i w p d cu u sx cx ux rx q w1.drew) := Vw.quiet V1 (Keeps.refl _ _).drew
  go_region_held_law (fun w' => w'.cell? ⟨p, 0, none⟩ = some (.int .u32 d.id) ∧ w'.cell? ⟨p, 2, none⟩ = some (.bool d.mine) ∧ w'.cell? ⟨p, 3, none⟩ = some (.int .i64 d.state) ∧ w'.cell? ⟨p, 4, none⟩ = some (.bool d.acc) ∧ w'.cell? ⟨p, 5, none⟩ = some (.bool d.closing) ∧ w'.cell? ⟨p, 6, none⟩ = some (.bool d.told) ∧ w'.cell? ⟨p, 8, none⟩ = some sx ∧ w'.cell? ⟨p, 9, none⟩ = some cx ∧ w'.cell? ⟨p, 10, none⟩ = some ux ∧ w'.cell? ⟨p, 11, none⟩ = some rx) (first | exact Vw.cells (by with_reducible assumption) | exact Vw.cells2 (by with_reducible assumption) _ _ _ _ _ _ _ _ _ _ _) (first
    | (go_at_call 46; with_reducible refine (vw_lenS (by with_reducible assumption)).mono ?_; rintro e w' ⟨rfl, rfl⟩)
    | (go_at_call 46; with_reducible refine (vw_lenU (by with_reducible assumption)).mono ?_; rintro e w' ⟨rfl, rfl⟩)
    | (go_at_call 47; with_reducible refine (vw_have (by with_reducible assumption)).mono ?_; rintro e w' ⟨rfl, rfl⟩)
    | (go_at_call 50; with_reducible refine (vw_left (by with_reducible assumption)).mono ?_; rintro e w5 ⟨rfl, V5⟩; obtain ⟨z0, z1, z2, z3, z4, z5, z6, z7, z8, z9, z10, y0, y1, y2, y3, y4, y5, y6, y7, y8, y9, y10⟩ := Vw.res V5)
    | (go_at_call 51; with_reducible refine (vw_owed (by with_reducible assumption)).mono ?_; rintro e w5 ⟨rfl, V5⟩; obtain ⟨z0, z1, z2, z3, z4, z5, z6, z7, z8, z9, z10, y0, y1, y2, y3, y4, y5, y6, y7, y8, y9, y10⟩ := Vw.res V5)
    | fail)
  all_goals
    obtain ⟨w3, hw3⟩ : ∃ w3, w3 = (((((((((((w5.setCell ⟨q, 0, none⟩ (.int .u32 d.id)).setCell ⟨q, 1, none⟩ (.int .i64 d.state)).setCell ⟨q, 2, none⟩ (.bool d.mine)).setCell ⟨q, 3, none⟩ (.bool d.acc)).setCell ⟨q, 4, none⟩ (.int .i64 d.staged.length)).setCell ⟨q, 5, none⟩ (.int .u32 d.vCredit)).setCell ⟨q, 6, none⟩ (.int .i64 d.vLeft)).setCell ⟨q, 7, none⟩ (.int .i64 d.unread.length)).setCell ⟨q, 8, none⟩ (.int .i64 d.vOwed)).setCell ⟨q, 9, none⟩ (.bool d.closing)).setCell ⟨q, 10, none⟩ (.bool d.told)) := ⟨_, rfl⟩
    have C3 : Cells w3 q 70 (viewL d) := by rw [hw3]; exact (((((((((((V5.it.z.setCell 0 _).setCell 1 _).setCell 2 _).setCell 3 _).setCell 4 _).setCell 5 _).setCell 6 _).setCell 7 _).setCell 8 _).setCell 9 _).setCell 10 _)
    have no : ¬ q < w.heap.size := by rw [V5.it.q1]; exact Nat.lt_irrefl _
    have K3 : Keeps Nowhere w w3 := by rw [hw3]; exact (((((((((((V5.it.k.setCell _ _ (fun h => absurd h no)).setCell _ _ (fun h => absurd h no)).setCell _ _ (fun h => absurd h no)).setCell _ _ (fun h => absurd h no)).setCell _ _ (fun h => absurd h no)).setCell _ _ (fun h => absurd h no)).setCell _ _ (fun h => absurd h no)).setCell _ _ (fun h => absurd h no)).setCell _ _ (fun h => absurd h no)).setCell _ _ (fun h => absurd h no)).setCell _ _ (fun h => absurd h no))
    rw [← hw3]
    have b := C3.cell
    clear hw3
    go_wp2
    have b0 : w3.cell? ⟨q, 0, none⟩ = some (.int .u32 d.id) := b 0
    have b1 : w3.cell? ⟨q, 1, none⟩ = some (.int .i64 d.state) := b 1
    have b2 : w3.cell? ⟨q, 2, none⟩ = some (.bool d.mine) := b 2
    have b3 : w3.cell? ⟨q, 3, none⟩ = some (.bool d.acc) := b 3
    have b4 : w3.cell? ⟨q, 4, none⟩ = some (.int .i64 d.staged.length) := b 4
    have b5 : w3.cell? ⟨q, 5, none⟩ = some (.int .u32 d.vCredit) := b 5
    have b6 : w3.cell? ⟨q, 6, none⟩ = some (.int .i64 d.vLeft) := b 6
    have b7 : w3.cell? ⟨q, 7, none⟩ = some (.int .i64 d.unread.length) := b 7
    have b8 : w3.cell? ⟨q, 8, none⟩ = some (.int .i64 d.vOwed) := b 8
    have b9 : w3.cell? ⟨q, 9, none⟩ = some (.bool d.closing) := b 9
    have b10 : w3.cell? ⟨q, 10, none⟩ = some (.bool d.told) := b 10
    refine bodyPost_ret (v := .agg (viewL d).toArray) (by simp [results, Tryd.results22, go_sem, b0, b1, b2, b3, b4, b5, b6, b7, b8, b9, b10]; try rfl) rfl ?_
    exact ⟨rfl, ⟨K3⟩⟩
end
end Go.Proofs.YteghehhifebhcaaDoor
