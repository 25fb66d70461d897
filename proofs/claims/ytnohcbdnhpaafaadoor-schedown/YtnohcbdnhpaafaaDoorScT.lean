/-
  package sched: Next while a ticket waits, Next of nil
-/
import Derived.Test.YtnohcbdnhpaafaaDoorScx
namespace Go.Proofs.YtnohcbdnhpaafaaDoor
open Go.RowKit

variable {A : Nat → Addr} {w w' w0 W w2 : World} {own own' : Nat → Nat} {I : Nat → Prop} {s p r m b6 b4 : Nat} {L : List Tk} {l ks : List Nat}

abbrev fr6v (t : Tk) : Value := .agg #[.int .u8 0, .int .u8 (shF t.k.toNat), .int .u16 (shG t.k.toNat), .int .u32 t.s, .int .u32 t.v, .slice none 0 0]
theorem frame_ok (t : Tk) (ht : t.Wide) (h0 : mayT t = 0) (h : St11 A w) : Calls Tryd.prog 33 #[tkv t.k t.s t.v] w fun e w' => ∃ x, e = .returned (.tuple #[fr6v t, x]) ∧ Aside (Keeps Nowhere w w') := by
  refine (frameT t ht h).mono ?_
  rintro e w' ⟨x, rfl, _, k⟩
  refine ⟨x, ?_, k⟩
  unfold fr6
  rw [if_pos h0]
theorem Ln.ok (h : Ln A w0 own w p L m) : ∀ t ∈ L, mayT t = 0 ∧ t.Wide := by
  obtain ⟨Z, ⟨fp, mb, F, h1⟩, rfl⟩ := h.l
  intro t ht
  obtain ⟨x, hx, rfl⟩ := List.mem_map.1 ht
  exact h1.ok.may x hx
theorem nextKK (h : Ln A w0 own w p [] m) : Calls Tryd.prog 32 #[ptr p] w fun e w' => e = .returned (.tuple #[tkv 0 0 0, .bool false]) ∧ Aside (Keeps Nowhere w w') := by
  obtain ⟨Z, h1, h2⟩ := h.l
  obtain rfl : Z = [] := by simpa using h2
  refine (next_empty h1).mono ?_
  rintro e w' ⟨rfl, k⟩
  exact ⟨rfl, ⟨k⟩⟩
theorem data_none (w : World) : (binOp BinOp.eql 49 .nilFunc .nilFunc).run Tryd.prog w = .ok (.bool true) w := by
  kernel_rfl

set_option maxHeartbeats 2000000 in
theorem next_tk (t : Tk) (h : Sc A w0 own w s (t :: L) m ks) (hm : m ≤ 8796093022208) (fv : Value) :
    Calls Tryd.prog 12 #[ptr s, fv] w fun e w' => ∃ own', e = .returned (.tuple #[fr6v t, .bool true]) ∧ Aside (Sc A w0 own' w' s L m ks) ∧ Aside (Sn In6 own w own' w') := by
  obtain ⟨p, r, h⟩ := h
  obtain ⟨b4, hb4⟩ : ∃ b4, b4 = w.heap.size := ⟨_, rfl⟩
  obtain ⟨w1, hw1⟩ : ∃ w1, w1 = w.alloc (.cells #[.int .u8 0, .int .u8 0, .int .u16 0, .int .u32 0, .int .u32 0, .slice none 0 0] 46) := ⟨_, rfl⟩
  have k1 : Keeps Nowhere w w1 := by rw [hw1]; exact (Keeps.refl _ _).alloc _
  have c1 : Cells w1 b4 46 zero6 := by rw [hw1, hb4]; exact Cells.new w _ _
  have P := Aside.mk (parts_at (h.quiet k1))
  have hok := h.ln.ok t List.mem_cons_self
  have HB4 : Aside (¬ b4 < w.heap.size) := ⟨by omega⟩
  have H := Aside.mk (And.intro h (And.intro hm (And.intro c1 k1)))
  have HO := Aside.mk hok
  clear h c1 k1 hok hm
  go_enter Tryd.func12, Tryd.ntmps12
  go_upto_region 1 with fail
  rw [← hb4, ← hw1]
  clear hb4 hw1
  go_upto_region 2 with (go_at_call 27; refine P.it.mono ?_; rintro e w2 ⟨rfl, k2⟩)
  obtain ⟨b6, hb6⟩ : ∃ b6, b6 = w2.heap.size := ⟨_, rfl⟩
  obtain ⟨w3, hw3⟩ : ∃ w3, w3 = w2.alloc (.cells #[ptr p, ptr r] 68) := ⟨_, rfl⟩
  have k3 : Keeps Nowhere w1 w3 := by rw [hw3]; exact k2.it.alloc _
  have c3 : Cells w3 b6 68 [ptr p, ptr r] := by rw [hw3, hb6]; exact Cells.new w2 _ _
  have x0 : w3.cell? ⟨b6, 0, none⟩ = some (ptr p) := c3.cell 0
  have q3 : Sn (fun _ => False) own w (give own w.heap.size 9) w3 := Sn.quiet (H.it.2.2.2.trans k3) 9
  have h3 := H.it.1.sn q3 (fun x => x) (fun _ _ x => x)
  have L3 := Aside.mk (nextX t h3.ln H.it.2.1)
  have c43 : CellsO (give own w.heap.size 9) 9 w3 b4 46 zero6 := ⟨H.it.2.2.1.later k3 (fun x => x), give_new (by have := HB4.it; omega)⟩
  have H3 := Aside.mk (And.intro h3 (And.intro c43 q3))
  rw [← hb6, ← hw3]
  clear hb6 hw3 k3 c3 k2 P q3 h3 c43
  go_upto_region 3 with (go_at_call 32; refine L3.it.mono ?_; rintro e w4 ⟨own4, rfl, l4, q4⟩)
  have h4 := H3.it.1.lane l4.it q4.it
  have c44 := H3.it.2.1.sn q4.it (fun x => by have := x.2; omega)
  have q04 := (H3.it.2.2.mono (J := In6) (fun _ x => x.elim)).trans (q4.it.mono in46)
  obtain ⟨b7, hb7⟩ : ∃ b, b = w4.heap.size := ⟨_, rfl⟩
  obtain ⟨w5, hw5⟩ : ∃ w5, w5 = w4.alloc (.cells #[.int .i64 t.k, .int .u32 t.s, .int .u32 t.v] 29) := ⟨_, rfl⟩
  have k5 : Keeps Nowhere w4 w5 := by rw [hw5]; exact (Keeps.refl _ _).alloc _
  have c5 : Cells w5 b7 29 (tcells t) := by rw [hw5, hb7]; exact Cells.new w4 _ _
  have z0 : w5.cell? ⟨b7, 0, none⟩ = some (.int .i64 t.k) := c5.cell 0
  have z1 : w5.cell? ⟨b7, 1, none⟩ = some (.int .u32 t.s) := c5.cell 1
  have z2 : w5.cell? ⟨b7, 2, none⟩ = some (.int .u32 t.v) := c5.cell 2
  have h5 := h4.quiet k5
  have FT := Aside.mk (frame_ok t HO.it.2 HO.it.1 h5.ln.g.st)
  have H5 := Aside.mk (And.intro h5 (And.intro (c44.quiet k5) (q04.trans (Sn.same k5))))
  rw [← hb7, ← hw5]
  clear hb7 hw5 k5 c5 h5 h4 c44 q04 x0 L3 H3 H l4 q4
  go_upto_region 5 with (go_at_call 33; refine FT.it.mono ?_; rintro e w6 ⟨x, rfl, k6⟩)
  obtain ⟨b9, hb9⟩ : ∃ b, b = w6.heap.size := ⟨_, rfl⟩
  obtain ⟨w7, hw7⟩ : ∃ w7, w7 = w6.alloc (.cells #[.int .u8 0, .int .u8 (shF t.k.toNat), .int .u16 (shG t.k.toNat), .int .u32 t.s, .int .u32 t.v, .slice none 0 0] 46) := ⟨_, rfl⟩
  have k7 : Keeps Nowhere w5 w7 := by rw [hw7]; exact k6.it.alloc _
  have c8 : Cells w7 b9 46 [.int .u8 0, .int .u8 (shF t.k.toNat), .int .u16 (shG t.k.toNat), .int .u32 t.s, .int .u32 t.v, .slice none 0 0] := by rw [hw7, hb9]; exact Cells.new w6 _ _
  have c4 := H5.it.2.1.quiet k7
  obtain ⟨⟨s0, s1, s2, s3, s4, s5⟩, f5⟩ := six_cells c4.1
  have y0 : w7.cell? ⟨b9, 0, none⟩ = some (.int .u8 0) := c8.cell 0
  have y1 : w7.cell? ⟨b9, 1, none⟩ = some (.int .u8 (shF t.k.toNat)) := c8.cell 1
  have y2 : w7.cell? ⟨b9, 2, none⟩ = some (.int .u16 (shG t.k.toNat)) := c8.cell 2
  have y3 : w7.cell? ⟨b9, 3, none⟩ = some (.int .u32 t.s) := c8.cell 3
  have y4 : w7.cell? ⟨b9, 4, none⟩ = some (.int .u32 t.v) := c8.cell 4
  have y5 : w7.cell? ⟨b9, 5, none⟩ = some (.slice none 0 0) := c8.cell 5
  have q9 : Sn (fun k => k = 9) own4 w7 own4 (set6 w7 b4 (.int .u8 0) (.int .u8 (shF t.k.toNat)) (.int .u16 (shG t.k.toNat)) (.int .u32 t.s) (.int .u32 t.v) (.slice none 0 0)) := ⟨fun _ _ => rfl, keeps6 (Keeps.refl _ _) (fun _ => c4.2)⟩
  have q07 := H5.it.2.2.trans (Sn.same k7)
  have G := Aside.mk (And.intro ((H5.it.1.quiet k7).sn q9 (by omega) (fun k hk => by have := hk.2; omega)) (Sn.mk q07.agree (keeps6 (x0 := .int .u8 0) (x1 := .int .u8 (shF t.k.toNat)) (x2 := .int .u16 (shG t.k.toNat)) (x3 := .int .u32 t.s) (x4 := .int .u32 t.v) (x5 := .slice none 0 0) q07.keeps (fun h => absurd h HB4.it))))
  rw [← hb9, ← hw7]
  clear hb9 hw7 k7 c8 c4 q9 q07 k6 FT H5 z0 z1 z2
  go_wp2_with fail
  refine bodyPost_ret (v := .tuple #[fr6v t, .bool true]) (by simp [results, Tryd.results12, go_sem, s0, s1, s2, s3, s4, s5]) rfl ?_
  exact ⟨own4, rfl, ⟨p, r, G.it.1⟩, ⟨G.it.2⟩⟩

set_option maxHeartbeats 2000000 in
theorem next_none (h : Sc A w0 own w s [] m ks) :
    Calls Tryd.prog 12 #[ptr s, .nilFunc] w fun e w' => e = .returned (.tuple #[.agg zero6.toArray, .bool false]) ∧ Aside (Keeps Nowhere w w') := by
  obtain ⟨p, r, h⟩ := h
  obtain ⟨b4, hb4⟩ : ∃ b4, b4 = w.heap.size := ⟨_, rfl⟩
  obtain ⟨w1, hw1⟩ : ∃ w1, w1 = w.alloc (.cells #[.int .u8 0, .int .u8 0, .int .u16 0, .int .u32 0, .int .u32 0, .slice none 0 0] 46) := ⟨_, rfl⟩
  have k1 : Keeps Nowhere w w1 := by rw [hw1]; exact (Keeps.refl _ _).alloc _
  have c1 : Cells w1 b4 46 zero6 := by rw [hw1, hb4]; exact Cells.new w _ _
  have P := Aside.mk (parts_at (h.quiet k1))
  have LN := Aside.mk (fun W (k : Keeps Nowhere w W) => nextKK (h.quiet k).ln)
  have HB4 : Aside (¬ b4 < w.heap.size) := ⟨by omega⟩
  have H := Aside.mk (And.intro c1 k1)
  have nn := data_none
  clear h c1 k1
  go_enter Tryd.func12, Tryd.ntmps12
  go_upto_region 1 with fail
  rw [← hb4, ← hw1]
  clear hb4 hw1
  go_upto_region 2 with (go_at_call 27; refine P.it.mono ?_; rintro e w2 ⟨rfl, k2⟩)
  obtain ⟨b6, hb6⟩ : ∃ b6, b6 = w2.heap.size := ⟨_, rfl⟩
  obtain ⟨w3, hw3⟩ : ∃ w3, w3 = w2.alloc (.cells #[ptr p, ptr r] 68) := ⟨_, rfl⟩
  have k3 : Keeps Nowhere w1 w3 := by rw [hw3]; exact k2.it.alloc _
  have c3 : Cells w3 b6 68 [ptr p, ptr r] := by rw [hw3, hb6]; exact Cells.new w2 _ _
  have x0 : w3.cell? ⟨b6, 0, none⟩ = some (ptr p) := c3.cell 0
  have L3 := Aside.mk (LN.it w3 (H.it.2.trans k3))
  have K3 := Aside.mk k3
  rw [← hb6, ← hw3]
  clear hb6 hw3 k3 c3 k2 P LN
  go_upto_region 3 with (go_at_call 32; refine L3.it.mono ?_; rintro e w4 ⟨rfl, k4⟩)
  obtain ⟨w5, hw5⟩ : ∃ w5, w5 = w4.alloc (.cells #[.int .i64 0, .int .u32 0, .int .u32 0] 29) := ⟨_, rfl⟩
  have k5 : Keeps Nowhere w1 w5 := by rw [hw5]; exact (K3.it.trans k4.it).alloc _
  have c4 := H.it.1.later k5 (fun x => x)
  obtain ⟨⟨s0, s1, s2, s3, s4, s5⟩, f5⟩ := six_cells c4
  have G := Aside.mk (keeps6 (x0 := .int .u8 0) (x1 := .int .u8 0) (x2 := .int .u16 0) (x3 := .int .u32 0) (x4 := .int .u32 0) (x5 := .slice none 0 0) (H.it.2.trans k5) (fun h => absurd h HB4.it))
  rw [← hw5]
  clear hw5 k5 k4 L3 x0 K3 H c4
  go_wp2_with fail
  refine bodyPost_ret (v := .tuple #[.agg zero6.toArray, .bool false]) (by simp [results, Tryd.results12, go_sem, s0, s1, s2, s3, s4, s5]) rfl ?_
  exact ⟨rfl, ⟨G.it⟩⟩
end Go.Proofs.YtnohcbdnhpaafaaDoor
