/-
  FeedPieces over its arguments.
-/
import Derived.Test.YtigcfonlcknpaaaDoorOpenU
import Derived.Test.YtigcfonlcknpaaaDoorFeedPieces
namespace Go.Proofs.YtigcfonlcknpaaaDoor
open Go.ChangeShapes Go.WideShapes Go.RowKit

structure CutsZ where
  a : Value
  b : Value
  za : List Int
  zb : List Int
def CutsArgU (w : World) (v : Value) (z : CutsZ) : Prop := v = .agg #[z.a, z.b] ∧ CutsArg w z.a z.b z.za z.zb
section
variable {H : Type} {enc : TypeId × Value → H} {w : World} {base : Nat} {spare : Nat → Bool} {held : Bool}
theorem array2 {α : Type} {cs : Array α} (h : cs.size = 2) : ∃ c0 c1, cs = #[c0, c1] := by
  obtain ⟨l⟩ := cs
  match l, h with
  | [c0, c1], _ => exact ⟨c0, c1, rfl⟩
theorem wide2 {P : Program} {r : Reach} {b0 : Nat} {t : TypeId} {f0 f1 : Field} {v : Value} (hs : P.underlying t = some (.struct #[f0, f1])) (hC : P.cellsOf t = 2) (hv : Value.okWide P w r b0 t v) : ∃ c0 c1, v = .agg #[c0, c1] := by
  obtain ⟨cs, rfl, hsz⟩ := okWide_struct hs hv
  obtain ⟨c0, c1, rfl⟩ := array2 (hsz.trans hC)
  exact ⟨c0, c1, rfl⟩
set_option maxRecDepth 100000 in
theorem cuts_openU {r : Reach} {b0 : Nat} {v : Value} {d : DataW H} {p : List MemPlace} (hv : Value.okWide Tryd.prog w r b0 52 v)
    (h : DataW.Trod enc Tryd.prog w base spare held 52 v d p) (hk : Rows.uptoBulk d ≤ 1048576) : ∃ z, CutsArgU w v z := by
  have hCB : Tryd.prog.cellsOf 50 = 1 := by kernel_rfl
  have hC : Tryd.prog.cellsOf 52 = 2 := by kernel_rfl
  have hh := wide2 (P := Tryd.prog) (w := w) (r := r) (b0 := b0) (t := 52) (v := v) Tryd.underlying52 hC
  have h2 := hh hv
  clear hh hC hv
  obtain ⟨c0, c1, hv⟩ := h2
  subst hv
  obtain ⟨fuel, hf⟩ := h
  obtain ⟨y0, y1, n, hx, _, t0, t1⟩ := trod_struct2 Tryd.underlying52 hf
  simp only [hCB, Value.cells, List.drop_zero, List.drop_succ_cons, List.take_succ_cons, List.take_zero] at t0 t1
  simp only [Prod.mk.injEq] at hx
  rw [hx.1] at hk
  simp only [Rows.uptoBulk, Rows.uptoBulkAll] at hk
  obtain ⟨za, ha, la⟩ := ints_of_trod t0 (by omega)
  obtain ⟨zb, hb, lb⟩ := ints_of_trod t1 (by omega)
  exact ⟨⟨c0, c1, za, zb⟩, rfl, ha, hb, la, lb⟩
end
section
variable {A : Nat → Addr} {w : World}
set_option maxHeartbeats 800000 in
theorem feedPieces_bad (most : Int) (v ca cb : Value) (B : Base A w) (h : most < 1 ∨ 65536 < most) (hca : ∃ q l c, ca = .slice q l c) (hcb : ∃ q l c, cb = .slice q l c) :
    Calls Tryd.prog 5 #[.int .i64 most, v, .agg #[ca, cb]] w fun e w' => e = .returned (.bool true) ∧ Below w.heap.size w w' := by
  obtain ⟨qa, La, c1, rfl⟩ := hca
  obtain ⟨qb, Lb, c2, rfl⟩ := hcb
  have BA : Below w.heap.size w (w.alloc (.cells #[.slice qa La c1, .slice qb Lb c2] 52)) := alloc_below _ _
  have F := Aside.mk (fixed5 (B.later BA))
  have G : Aside (∀ W x y, Below w.heap.size w W → _) := ⟨fun W x y hW => gives_bad (A := A) (w := W) (most := most) (B.later hW) h x y⟩
  have BA := Aside.mk BA
  clear B
  rcases h with h | h
  · go_enter Tryd.func5, Tryd.ntmps5
    go_wp2_with (go_at_call 14; refine F.it.mono ?_; rintro e w1 ⟨rfl, b1⟩; have B1 : Aside (Below w.heap.size w w1) := ⟨BA.it.trans (b1.mono BA.it.size)⟩; have x0 : w1.cell? ⟨w.heap.size, 0, none⟩ = some (.slice qa La c1) := (by rw [b1.cell (by simp)]; simp); have x1 : w1.cell? ⟨w.heap.size, 1, none⟩ = some (.slice qb Lb c2) := (by rw [b1.cell (by simp)]; simp); clear b1)
    go_wp2_with (go_at_call_of 23 qa; refine (G.it w1 _ _ B1.it).mono ?_; rintro e w2 ⟨rfl, k2⟩; have B2 : Aside (Below w.heap.size w w2) := ⟨B1.it.trans (k2.bel.mono B1.it.size)⟩; have y1 : w2.cell? ⟨w.heap.size, 1, none⟩ = some (.slice qb Lb c2) := (by rw [k2.bel.cell (World.block_lt_of_cell? w1 _ x1)]; exact x1); clear k2)
    go_wp2_with (go_at_call_of 23 qb; refine (G.it w2 _ _ B2.it).mono ?_; rintro e w3 ⟨rfl, k3⟩; have B3 : Aside (Below w.heap.size w w3) := ⟨B2.it.trans (k3.bel.mono B2.it.size)⟩; clear k3)
    go_ret
    exact ⟨rfl, B3.it⟩
  · have h1 : ¬ most < 1 := by omega
    go_enter Tryd.func5, Tryd.ntmps5
    go_wp2_with (go_at_call 14; refine F.it.mono ?_; rintro e w1 ⟨rfl, b1⟩; have B1 : Aside (Below w.heap.size w w1) := ⟨BA.it.trans (b1.mono BA.it.size)⟩; have x0 : w1.cell? ⟨w.heap.size, 0, none⟩ = some (.slice qa La c1) := (by rw [b1.cell (by simp)]; simp); have x1 : w1.cell? ⟨w.heap.size, 1, none⟩ = some (.slice qb Lb c2) := (by rw [b1.cell (by simp)]; simp); clear b1)
    go_wp2_with (go_at_call_of 23 qa; refine (G.it w1 _ _ B1.it).mono ?_; rintro e w2 ⟨rfl, k2⟩; have B2 : Aside (Below w.heap.size w w2) := ⟨B1.it.trans (k2.bel.mono B1.it.size)⟩; have y1 : w2.cell? ⟨w.heap.size, 1, none⟩ = some (.slice qb Lb c2) := (by rw [k2.bel.cell (World.block_lt_of_cell? w1 _ x1)]; exact x1); clear k2)
    go_wp2_with (go_at_call_of 23 qb; refine (G.it w2 _ _ B2.it).mono ?_; rintro e w3 ⟨rfl, k3⟩; have B3 : Aside (Below w.heap.size w w3) := ⟨B2.it.trans (k3.bel.mono B2.it.size)⟩; clear k3)
    go_ret
    exact ⟨rfl, B3.it⟩
end
theorem feedPieces_walkU {A : Nat → Addr} (most : Int) (v : Value) (bs : List Int) (c : Value) (z : CutsZ) (w : World) (B : Base A w) (hz : BytesArgU w v bs) (hc : CutsArgU w c z) :
    Calls Tryd.prog 5 #[.int .i64 most, v, c] w fun e w' => e = .returned (.bool true) ∧ Below w.heap.size w w' := by
  obtain ⟨rfl, hC⟩ := hc
  by_cases h : 1 ≤ most ∧ most ≤ 65536
  · exact feedPieces_good most v bs z.a z.b z.za z.zb B h.1 h.2 hz.1 hz.2.1 hz.2.2 hC
  · obtain ⟨qa, c1, ea⟩ := hC.a.len
    obtain ⟨qb, c2, eb⟩ := hC.b.len
    exact feedPieces_bad most v z.a z.b B (by omega) ⟨_, _, _, ea⟩ ⟨_, _, _, eb⟩
end Go.Proofs.YtigcfonlcknpaaaDoor
