/-
  layer 6's laws: copied
-/
import Derived.Test.YtfphoaphdfhhiaaDoorOutW
namespace Go.Proofs.YtfphoaphdfhhiaaDoor
open Go.RowKit

section
variable {own own' : Nat → Nat} {i j : Nat} {w w' : World} {p qp tot : Nat} {q : List (Nat × Nat)} {rs : List (List Int)} {r : List Int} {I : Nat → Prop} {A : Nat → Addr}

set_option maxHeartbeats 1000000 in
theorem copied_any (own : Nat → Nat) (o : Nat) (v t f s l : Int) (d : Value) (ns : List Int) (hr : Rd w d ns) (hn : ns.length ≤ 140737488355328) :
    Calls Tryd.prog 16 #[frm v t f s l d] w fun e w' => ∃ d', e = .returned (frm v t f s l d') ∧ Aside (RowB (give own w.heap.size o) o w' d' ns ∧ Keeps Nowhere w w') := by
  obtain ⟨a, c, hd⟩ := hr.shape
  subst hd
  obtain ⟨W1, hW1⟩ : ∃ W1, W1 = (w.alloc (fbox v t f s l (.slice a ns.length c))).alloc (fbox 0 0 0 0 0 (.slice none 0 0)) := ⟨_, rfl⟩
  have k1 : Keeps Nowhere w W1 := by rw [hW1]; exact ((Keeps.refl _ _).alloc _).alloc _
  have HR := Aside.mk (hr.later (k1.alloc (.cells #[] 5)).bel)
  have hC0 : Cells W1 w.heap.size 37 [.int .u8 v, .int .u8 t, .int .u16 f, .int .u32 s, .int .u32 l, .slice a ns.length c] := by
    rw [hW1]
    exact (Cells.new w _ _).later ((Keeps.refl Nowhere _).alloc _) (fun x => x)
  have hC1 : Cells W1 (w.heap.size + 1) 37 [.int .u8 0, .int .u8 0, .int .u16 0, .int .u32 0, .int .u32 0, .slice none 0 0] := by
    rw [hW1]
    have := Cells.new (w.alloc (fbox v t f s l (.slice a ns.length c))) 37 [.int .u8 0, .int .u8 0, .int .u16 0, .int .u32 0, .int .u32 0, .slice none 0 0]
    rw [heap_alloc, Array.size_push] at this
    exact this
  have hz : W1.heap.size = w.heap.size + 2 := by rw [hW1]; simp
  obtain ⟨N, hN⟩ : ∃ N, Aside (N = ns.length) := ⟨_, ⟨rfl⟩⟩
  rw [← hN.it] at HR hC0 hn hW1 ⊢
  have HZ := Aside.mk hz
  have K1 := Aside.mk k1
  have C0 := Aside.mk hC0
  have C1 := Aside.mk hC1
  have HN := Aside.mk hn
  clear hr hC0 hC1 hz k1 hn
  go_enter Tryd.func16, Tryd.ntmps16
  go_upto_region 1 with fail
  rw [← hW1]
  clear hW1
  have a5 : (W1.alloc (.cells #[] 5)).cell? ⟨w.heap.size, 5, none⟩ = some (.slice a N c) := alloc_cell _ (by rw [C0.it.cell]; rfl)
  have b5 : W1.cell? ⟨w.heap.size, 5, none⟩ = some (.slice a N c) := by rw [C0.it.cell]; rfl
  go_wp2_with (at_builtin; refine wpList_appendO rfl (.tmp 3) (.tmp 5) rfl (.slice (some ⟨W1.heap.size, 0, none⟩) 0 0) (.slice a N c) [] ns (owns_any (owns_empty W1 5)) HR.it (by have := HN.it; have := hN.it; simp; omega) rfl rfl ?_; intro q' l' c' w' o' k' b'; have D0 := C0.it.later (((Keeps.refl _ W1).alloc _).trans k'.it) (fun e => by have := HZ.it; simp only [Value.ownBlock, Option.some.injEq] at e; omega); have D1 := C1.it.later (((Keeps.refl _ W1).alloc _).trans k'.it) (fun e => by have := HZ.it; simp only [Value.ownBlock, Option.some.injEq] at e; omega); have x0 : w'.cell? ⟨w.heap.size, 0, none⟩ = some (.int .u8 v) := (by rw [D0.cell]; rfl); have x1 : w'.cell? ⟨w.heap.size, 1, none⟩ = some (.int .u8 t) := (by rw [D0.cell]; rfl); have x2 : w'.cell? ⟨w.heap.size, 2, none⟩ = some (.int .u16 f) := (by rw [D0.cell]; rfl); have x3 : w'.cell? ⟨w.heap.size, 3, none⟩ = some (.int .u32 s) := (by rw [D0.cell]; rfl); have x4 : w'.cell? ⟨w.heap.size, 4, none⟩ = some (.int .u32 l) := (by rw [D0.cell]; rfl); have x5 : w'.cell? ⟨w.heap.size, 5, none⟩ = some (.slice a N c) := (by rw [D0.cell]; rfl); have y0 : w'.cell? ⟨w.heap.size + 1, 0, none⟩ = some (.int .u8 0) := (by rw [D1.cell]; rfl); have y1 : w'.cell? ⟨w.heap.size + 1, 1, none⟩ = some (.int .u8 0) := (by rw [D1.cell]; rfl); have y2 : w'.cell? ⟨w.heap.size + 1, 2, none⟩ = some (.int .u16 0) := (by rw [D1.cell]; rfl); have y3 : w'.cell? ⟨w.heap.size + 1, 3, none⟩ = some (.int .u32 0) := (by rw [D1.cell]; rfl); have y4 : w'.cell? ⟨w.heap.size + 1, 4, none⟩ = some (.int .u32 0) := (by rw [D1.cell]; rfl); have y5 : w'.cell? ⟨w.heap.size + 1, 5, none⟩ = some (.slice none 0 0) := (by rw [D1.cell]; rfl); have fx := D0.frozen 5; have fy0 := D1.frozen 0; have fy1 := D1.frozen 1; have fy2 := D1.frozen 2; have fy3 := D1.frozen 3; have fy4 := D1.frozen 4; have fy5 := D1.frozen 5; have DD := Aside.mk D1; clear a5 b5 D0 D1)
  have hne : w.heap.size + 1 ≠ w.heap.size := by omega
  have E9 := (((((((DD.it.setOther ⟨w.heap.size, 5, none⟩ (.slice q' l' c') hne).setCell 0 (.int .u8 v)).setCell 1 (.int .u8 t)).setCell 2 (.int .u16 f)).setCell 3 (.int .u32 s)).setCell 4 (.int .u32 l)).setCell 5 (.slice q' l' c'))
  have K9 := (Keeps.refl (fun k => k = w.heap.size ∨ k = w.heap.size + 1) w').setCell ⟨w.heap.size, 5, none⟩ (.slice q' l' c') (fun _ => .inl rfl) |>.setCell ⟨w.heap.size + 1, 0, none⟩ (.int .u8 v) (fun _ => .inr rfl) |>.setCell ⟨w.heap.size + 1, 1, none⟩ (.int .u8 t) (fun _ => .inr rfl) |>.setCell ⟨w.heap.size + 1, 2, none⟩ (.int .u16 f) (fun _ => .inr rfl) |>.setCell ⟨w.heap.size + 1, 3, none⟩ (.int .u32 s) (fun _ => .inr rfl) |>.setCell ⟨w.heap.size + 1, 4, none⟩ (.int .u32 l) (fun _ => .inr rfl) |>.setCell ⟨w.heap.size + 1, 5, none⟩ (.slice q' l' c') (fun _ => .inr rfl)
  generalize hW9 : (((((((w'.setCell ⟨w.heap.size, 5, none⟩ (.slice q' l' c')).setCell ⟨w.heap.size + 1, 0, none⟩ (.int .u8 v)).setCell ⟨w.heap.size + 1, 1, none⟩ (.int .u8 t)).setCell ⟨w.heap.size + 1, 2, none⟩ (.int .u16 f)).setCell ⟨w.heap.size + 1, 3, none⟩ (.int .u32 s)).setCell ⟨w.heap.size + 1, 4, none⟩ (.int .u32 l)).setCell ⟨w.heap.size + 1, 5, none⟩ (.slice q' l' c')) = W9 at E9 K9 ⊢
  have z0 : W9.cell? ⟨w.heap.size + 1, 0, none⟩ = some (.int .u8 v) := by rw [E9.cell]; rfl
  have z1 : W9.cell? ⟨w.heap.size + 1, 1, none⟩ = some (.int .u8 t) := by rw [E9.cell]; rfl
  have z2 : W9.cell? ⟨w.heap.size + 1, 2, none⟩ = some (.int .u16 f) := by rw [E9.cell]; rfl
  have z3 : W9.cell? ⟨w.heap.size + 1, 3, none⟩ = some (.int .u32 s) := by rw [E9.cell]; rfl
  have z4 : W9.cell? ⟨w.heap.size + 1, 4, none⟩ = some (.int .u32 l) := by rw [E9.cell]; rfl
  have z5 : W9.cell? ⟨w.heap.size + 1, 5, none⟩ = some (.slice q' l' c') := by rw [E9.cell]; rfl
  refine bodyPost_ret (v := frm v t f s l (.slice q' l' c')) (by simp [results, Tryd.results16, go_sem, z0, z1, z2, z3, z4, z5]) rfl ?_
  have hz := HZ.it
  have hb : ∀ b, (Value.slice q' l' c').ownBlock = some b → w.heap.size + 2 ≤ b := fun b hb => by
    rcases b'.it b hb with e | e
    · simp only [Value.ownBlock, Option.some.injEq] at e
      omega
    · simp only [World.size_alloc] at e
      omega
  refine ⟨_, rfl, ⟨⟨owns_later o'.it K9 (fun b h e => ?_), fun b h => give_new (by have := hb b h; omega)⟩, ?_⟩⟩
  · have := hb b h
    omega
  · exact ((K1.it.alloc _).next k'.it (fun k e hk => by simp only [Value.ownBlock, Option.some.injEq] at e; omega)).next K9 (fun k e hk => by omega)
end
end Go.Proofs.YtfphoaphdfhhiaaDoor
