/-
  package handles: a Handles in memory by its owner; parts, New, Find, Of, Len, Bind, Drop
-/
import Derived.Test.YtjloedcikcamkaaDoorHnN
import Derived.Test.YtjloedcikcamkaaDoorCodedZ
import Derived.Test.YtjloedcikcamkaaDoorKeQ
import Derived.Handy
import Derived.BigQuiet
import Derived.Deep.QuietTactic
import Derived.Deep.RegionHeld3
import Derived.Deep.DeepCutAuto
namespace Go.Proofs.YtjloedcikcamkaaDoor
open Go.RowKit Go.Maps

abbrev hcel (g : Nat) (mb qb : Nat) : List Value := [.int .i64 g, .map (some mb), .map (some qb)]
/-- a Handles in memory: its box and its maps are i's -/
structure HnO (own : Nat → Nat) (i : Nat) (w : World) (p g : Nat) (L : Hl) : Prop where
  it : ∃ mb qb, CellsO own i w p 62 (hcel g mb qb) ∧ MapP w mb L ∧ MapQ w qb L ∧ own mb = i ∧ own qb = i ∧ mb ≠ qb
  ok : HOk g L

variable {own own' : Nat → Nat} {i p g : Nat} {w w' : World} {L : Hl} {I : Nat → Prop} {A : Nat → Addr} {z : Int} {x : Pl}

theorem HnO.sn (h : HnO own i w p g L) (s : Sn I own w own' w') (hi : ¬ I i) : HnO own' i w' p g L := by
  obtain ⟨mb, qb, hc, hm, hq, hb, hd, hne⟩ := h.it
  refine ⟨⟨mb, qb, hc.sn s hi, hm.later s.keeps (fun e => hi (by rw [← hb]; exact e)), hq.later s.keeps (fun e => hi (by rw [← hd]; exact e)), (s.agree mb hm.lt).trans hb, (s.agree qb hq.lt).trans hd, hne⟩, h.ok⟩
theorem HnO.quiet (h : HnO own i w p g L) (hk : Keeps Nowhere w w') : HnO own i w' p g L := h.sn (I := fun _ => False) (Sn.same hk) (fun x => x)

theorem parts_raw {mb qb : Nat} (hc : Cells w p 62 (hcel g mb qb)) : Calls Tryd.prog 26 #[ptr p] w fun e w' => e = .returned (.agg #[.int .i64 g, .map (some mb), .map (some qb)]) ∧ Aside (Keeps Nowhere w w') := by
  obtain ⟨W1, hW1⟩ : ∃ W1, w.alloc (.cells #[.int .i64 0, .map none, .map none] 62) = W1 := ⟨_, rfl⟩
  obtain ⟨b, hb⟩ : ∃ b, w.heap.size = b := ⟨_, rfl⟩
  have K1 : Aside (Keeps Nowhere w W1) := ⟨by rw [← hW1]; exact (Keeps.refl _ _).alloc _⟩
  have C1 : Aside (Cells W1 b 62 [.int .i64 0, .map none, .map none]) := ⟨by rw [← hW1, ← hb]; exact Cells.new w _ _⟩
  have HC := hc.later K1.it (fun x => x)
  have c0 : W1.cell? ⟨p, 0, none⟩ = some (.int .i64 g) := by rw [HC.cell]; rfl
  have c1 : W1.cell? ⟨p, 1, none⟩ = some (.map (some mb)) := by rw [HC.cell]; rfl
  have c2 : W1.cell? ⟨p, 2, none⟩ = some (.map (some qb)) := by rw [HC.cell]; rfl
  have d0 : W1.cell? ⟨b, 0, none⟩ = some (.int .i64 0) := by rw [C1.it.cell]; rfl
  have d1 : W1.cell? ⟨b, 1, none⟩ = some (.map none) := by rw [C1.it.cell]; rfl
  have d2 : W1.cell? ⟨b, 2, none⟩ = some (.map none) := by rw [C1.it.cell]; rfl
  have f0 := C1.it.frozen 0
  have f1 := C1.it.frozen 1
  have f2 := C1.it.frozen 2
  have HB := Aside.mk hb
  clear hc HC
  go_enter Tryd.func26, Tryd.ntmps26
  go_upto_region 1 with fail
  clear hW1 hb
  go_wp2_with fail
  have x3 := ((C1.it.setCell 0 (.int .i64 g)).setCell 1 (.map (some mb))).setCell 2 (.map (some qb))
  have y0 := x3.cell 0
  have y1 := x3.cell 1
  have y2 := x3.cell 2
  refine bodyPost_ret (v := .agg #[.int .i64 g, .map (some mb), .map (some qb)]) (by simp [results, Tryd.f26, go_sem, y0, y1, y2]) rfl ?_
  refine ⟨rfl, ⟨?_⟩⟩
  refine K1.it.next (S' := fun k => k = b) ((((Keeps.refl (fun k => k = b) W1).setCell ⟨b, 0, none⟩ _ (fun _ => rfl)).setCell ⟨b, 1, none⟩ _ (fun _ => rfl)).setCell ⟨b, 2, none⟩ _ (fun _ => rfl)) (fun k e hlt => by have := HB.it; omega)
theorem parts_nil (w : World) : Calls Tryd.prog 26 #[.pointer none] w fun e w' => e = .returned (.agg #[.int .i64 0, .map none, .map none]) ∧ Aside (Keeps Nowhere w w') := by
  obtain ⟨W1, hW1⟩ : ∃ W1, w.alloc (.cells #[.int .i64 0, .map none, .map none] 62) = W1 := ⟨_, rfl⟩
  obtain ⟨b, hb⟩ : ∃ b, w.heap.size = b := ⟨_, rfl⟩
  have K1 : Aside (Keeps Nowhere w W1) := ⟨by rw [← hW1]; exact (Keeps.refl _ _).alloc _⟩
  have C1 : Aside (Cells W1 b 62 [.int .i64 0, .map none, .map none]) := ⟨by rw [← hW1, ← hb]; exact Cells.new w _ _⟩
  have d0 : W1.cell? ⟨b, 0, none⟩ = some (.int .i64 0) := by rw [C1.it.cell]; rfl
  have d1 : W1.cell? ⟨b, 1, none⟩ = some (.map none) := by rw [C1.it.cell]; rfl
  have d2 : W1.cell? ⟨b, 2, none⟩ = some (.map none) := by rw [C1.it.cell]; rfl
  have f0 := C1.it.frozen 0
  have f1 := C1.it.frozen 1
  have f2 := C1.it.frozen 2
  have HB := Aside.mk hb
  go_enter Tryd.func26, Tryd.ntmps26
  go_upto_region 1 with fail
  clear hW1 hb
  go_wp2_with fail
  have x3 := ((C1.it.setCell 0 (.int .i64 0)).setCell 1 (.map none)).setCell 2 (.map none)
  have y0 := x3.cell 0
  have y1 := x3.cell 1
  have y2 := x3.cell 2
  refine bodyPost_ret (v := .agg #[.int .i64 0, .map none, .map none]) (by simp [results, Tryd.f26, go_sem, y0, y1, y2]) rfl ?_
  refine ⟨rfl, ⟨?_⟩⟩
  refine K1.it.next (S' := fun k => k = b) ((((Keeps.refl (fun k => k = b) W1).setCell ⟨b, 0, none⟩ _ (fun _ => rfl)).setCell ⟨b, 1, none⟩ _ (fun _ => rfl)).setCell ⟨b, 2, none⟩ _ (fun _ => rfl)) (fun k e hlt => by have := HB.it; omega)

theorem fld1 (a b c : Value) (W : World) : Sem.run Tryd.prog (Instr.field 62 (.agg #[a, b, c]) 1) W = .ok b W := by kernel_rfl
theorem fld2 (a b c : Value) (W : World) : Sem.run Tryd.prog (Instr.field 62 (.agg #[a, b, c]) 2) W = .ok c W := by kernel_rfl
theorem len_at (h : HnO own i w p g L) : Calls Tryd.prog 17 #[ptr p] w fun e w' => e = .returned (.int .i64 L.length) ∧ Aside (Keeps Nowhere w w') := by
  obtain ⟨mb, qb, hc, hm, hq, hb, hd, hne⟩ := h.it
  have P := Aside.mk (parts_raw hc.1)
  have HM := Aside.mk hm
  have fl := fld1 (.int .i64 g) (.map (some mb)) (.map (some qb))
  clear hc hm hq hb hd hne h
  go_enter Tryd.func17, Tryd.ntmps17
  go_upto_region 1 with fail
  go_wp2_with (first | (go_at_call 26; refine P.it.mono ?_; rintro e w1 ⟨rfl, K1⟩; have hln := (HM.it.later K1.it (fun x => x)).len))
  go_ret
  exact ⟨rfl, K1⟩
theorem len_nil (w : World) : Calls Tryd.prog 17 #[.pointer none] w fun e w' => e = .returned (.int .i64 0) ∧ Aside (Keeps Nowhere w w') := by
  have P := Aside.mk (parts_nil w)
  have fl := fld1 (.int .i64 0) (.map none) (.map none)
  go_enter Tryd.func17, Tryd.ntmps17
  go_upto_region 1 with fail
  go_wp2_with (first | (go_at_call 26; refine P.it.mono ?_; rintro e w1 ⟨rfl, K1⟩; have hln : ∀ ty, (Builtin.len_ #[59] ty #[.map none]).run Tryd.prog w1 = .ok (.int .i64 0) w1 := fun ty => by kernel_rfl))
  go_ret
  exact ⟨rfl, K1⟩
theorem find_raw {v M Q : Value} {gz : Int} {c l : Int} {d : Nat} {gb : Bool} (P : ∀ W, Keeps Nowhere w W → Calls Tryd.prog 26 #[v] W fun e w' => e = .returned (.agg #[.int .i64 gz, M, Q]) ∧ Aside (Keeps Nowhere W w'))
    (K : ∀ W, Keeps Nowhere w W → (Instr.lookup 59 M (.int .i64 z) true).run Tryd.prog W = .ok (.tuple #[.agg #[.int .i64 c, .int .i64 l, .int .u32 (d : Nat)], .bool gb]) W) :
    Calls Tryd.prog 16 #[v, .int .i64 z] w fun e w' => e = .returned (.tuple #[.agg #[.int .i64 c, .int .i64 l, .int .u32 (d : Nat)], .bool gb]) ∧ Aside (Keeps Nowhere w w') := by
  obtain ⟨W1, hW1⟩ : ∃ W1, w.alloc (.cells #[.int .i64 0, .int .i64 0, .int .u32 0] 33) = W1 := ⟨_, rfl⟩
  obtain ⟨b, hb⟩ : ∃ b, w.heap.size = b := ⟨_, rfl⟩
  have K1 : Aside (Keeps Nowhere w W1) := ⟨by rw [← hW1]; exact (Keeps.refl _ _).alloc _⟩
  have C1 : Aside (Cells W1 b 33 [.int .i64 0, .int .i64 0, .int .u32 0]) := ⟨by rw [← hW1, ← hb]; exact Cells.new w _ _⟩
  have HB := Aside.mk hb
  have PP := Aside.mk (P W1 K1.it)
  have KK := Aside.mk K
  have fl := fld1 (.int .i64 gz) M Q
  clear P K
  go_enter Tryd.func16, Tryd.ntmps16
  go_upto_region 1 with fail
  clear hW1 hb
  go_upto_region 2 with (first | (go_at_call 26; refine PP.it.mono ?_; rintro e w2 ⟨rfl, K2⟩; have hlk := KK.it w2 (K1.it.trans K2.it)))
  obtain ⟨W3, hW3⟩ : ∃ W3, w2.alloc (.cells #[.int .i64 c, .int .i64 l, .int .u32 (d : Nat)] 33) = W3 := ⟨_, rfl⟩
  have C2 := Aside.mk ((C1.it.later K2.it (fun x => x)).later (S := Nowhere) ((Keeps.refl _ _).alloc (.cells #[.int .i64 c, .int .i64 l, .int .u32 (d : Nat)] 33)) (fun x => x))
  have C3 := Aside.mk (Cells.new w2 33 [.int .i64 c, .int .i64 l, .int .u32 (d : Nat)])
  have K3 := Aside.mk ((K1.it.trans K2.it).alloc (.cells #[.int .i64 c, .int .i64 l, .int .u32 (d : Nat)] 33))
  have e3 : w2.alloc (.cells [.int .i64 c, .int .i64 l, .int .u32 (d : Nat)].toArray 33) = W3 := hW3
  rw [e3] at C3
  rw [hW3] at C2 K3 ⊢
  clear hW3 e3 hlk
  have d0 : W3.cell? ⟨b, 0, none⟩ = some (.int .i64 0) := by rw [C2.it.cell]; rfl
  have d1 : W3.cell? ⟨b, 1, none⟩ = some (.int .i64 0) := by rw [C2.it.cell]; rfl
  have d2 : W3.cell? ⟨b, 2, none⟩ = some (.int .u32 0) := by rw [C2.it.cell]; rfl
  have f0 := C2.it.frozen 0
  have f1 := C2.it.frozen 1
  have f2 := C2.it.frozen 2
  have g0 : W3.cell? ⟨w2.heap.size, 0, none⟩ = some (.int .i64 c) := by rw [C3.it.cell]; rfl
  have g1 : W3.cell? ⟨w2.heap.size, 1, none⟩ = some (.int .i64 l) := by rw [C3.it.cell]; rfl
  have g2 : W3.cell? ⟨w2.heap.size, 2, none⟩ = some (.int .u32 (d : Nat)) := by rw [C3.it.cell]; rfl
  go_wp2_with fail
  have x3 := ((C2.it.setCell 0 (.int .i64 c)).setCell 1 (.int .i64 l)).setCell 2 (.int .u32 (d : Nat))
  have y0 := x3.cell 0
  have y1 := x3.cell 1
  have y2 := x3.cell 2
  refine bodyPost_ret (v := .tuple #[.agg #[.int .i64 c, .int .i64 l, .int .u32 (d : Nat)], .bool gb]) (by simp [results, Tryd.f16, go_sem, y0, y1, y2]) rfl ?_
  refine ⟨rfl, ⟨?_⟩⟩
  refine K3.it.next (S' := fun k => k = b) ((((Keeps.refl (fun k => k = b) W3).setCell ⟨b, 0, none⟩ _ (fun _ => rfl)).setCell ⟨b, 1, none⟩ _ (fun _ => rfl)).setCell ⟨b, 2, none⟩ _ (fun _ => rfl)) (fun k e hlt => by have := HB.it; omega)
theorem find_at (h : HnO own i w p g L) (hz : Zw z) : Calls Tryd.prog 16 #[ptr p, .int .i64 z] w fun e w' => e = .returned (.tuple #[pv (gotP (hfind L z)), .bool (hfind L z).isSome]) ∧ Aside (Keeps Nowhere w w') := by
  obtain ⟨mb, qb, hc, hm, hq, hb, hd, hne⟩ := h.it
  exact find_raw (fun W k => parts_raw (hc.1.later k (fun x => x))) (fun W k => (hm.later k (fun x => x)).look hz)
theorem find_nil (w : World) (hz : Zw z) : Calls Tryd.prog 16 #[.pointer none, .int .i64 z] w fun e w' => e = .returned (.tuple #[pv ⟨0, 0, 0⟩, .bool false]) ∧ Aside (Keeps Nowhere w w') :=
  find_raw (fun W _ => parts_nil W) (fun W _ => Maps.look_nil true keyed_int Tryd.underlying59 (zero_pl W) (keyOf_int hz))
set_option maxHeartbeats 1000000 in
theorem of_raw {v M Q : Value} {gz r : Int} {gb : Bool} (P : ∀ W, Keeps Nowhere w W → Calls Tryd.prog 26 #[v] W fun e w' => e = .returned (.agg #[.int .i64 gz, M, Q]) ∧ Aside (Keeps Nowhere W w'))
    (K : ∀ W, Keeps Nowhere w W → (Instr.lookup 60 Q (.agg #[.int .i64 x.c, .int .i64 x.l, .int .u32 (x.d : Nat)]) true).run Tryd.prog W = .ok (.tuple #[.int .i64 r, .bool gb]) W) :
    Calls Tryd.prog 13 #[v, .agg #[.int .i64 x.c, .int .i64 x.l, .int .u32 (x.d : Nat)]] w fun e w' => e = .returned (.tuple #[.int .i64 r, .bool gb]) ∧ Aside (Keeps Nowhere w w') := by
  obtain ⟨c, l, d⟩ := x
  simp only at K ⊢
  obtain ⟨W1, hW1⟩ : ∃ W1, w.alloc (.cells #[.int .i64 c, .int .i64 l, .int .u32 (d : Nat)] 33) = W1 := ⟨_, rfl⟩
  obtain ⟨b, hb⟩ : ∃ b, w.heap.size = b := ⟨_, rfl⟩
  have K1 : Aside (Keeps Nowhere w W1) := ⟨by rw [← hW1]; exact (Keeps.refl _ _).alloc _⟩
  have C1 : Aside (Cells W1 b 33 [.int .i64 c, .int .i64 l, .int .u32 (d : Nat)]) := ⟨by rw [← hW1, ← hb]; exact Cells.new w _ _⟩
  have PP := Aside.mk (KeW.call (w1 := W1) (fun W k => P W (K1.it.trans k)))
  have hlk : ∀ n : KeW W1, (Instr.lookup 60 Q (.agg #[.int .i64 c, .int .i64 l, .int .u32 (d : Nat)]) true).run Tryd.prog n.W = .ok (.tuple #[.int .i64 r, .bool gb]) n.W := fun n => K n.W (K1.it.trans n.ok)
  have fl : ∀ n : KeW W1, Sem.run Tryd.prog (Instr.field 62 (.agg #[.int .i64 gz, M, Q]) 2) n.W = .ok Q n.W := fun n => fld2 (.int .i64 gz) M Q n.W
  have g0 : W1.cell? ⟨b, 0, none⟩ = some (.int .i64 c) := by rw [C1.it.cell]; rfl
  have g1 : W1.cell? ⟨b, 1, none⟩ = some (.int .i64 l) := by rw [C1.it.cell]; rfl
  have g2 : W1.cell? ⟨b, 2, none⟩ = some (.int .u32 (d : Nat)) := by rw [C1.it.cell]; rfl
  have c0 := fun n => KeW.cell g0 n
  have c1 := fun n => KeW.cell g1 n
  have c2 := fun n => KeW.cell g2 n
  haveI : Nonempty (KeW W1) := ⟨⟨W1, Keeps.refl _ _⟩⟩
  clear P K g0 g1 g2
  go_enter Tryd.func13, Tryd.ntmps13
  go_upto_region 1 with fail
  clear hW1 hb
  refine wp_region_quietF (KeW.W (w1 := W1)) (by kernel_rfl) (by kernel_rfl) ⟨W1.drew, (Keeps.refl _ _).drew⟩ rfl ?_
  repeat (go_big_quiet_step (first | (go_at_call 26; exact PP.it _)))
  refine wpQuiet_nil ?_
  rintro _ ⟨m, rfl⟩
  have KM := Aside.mk (K1.it.trans m.ok)
  generalize m.W = w11 at *
  go_wp2
  go_ret2
  exact ⟨rfl, KM⟩
theorem of_at (h : HnO own i w p g L) (hx : x.Wide) : Calls Tryd.prog 13 #[ptr p, .agg #[.int .i64 x.c, .int .i64 x.l, .int .u32 (x.d : Nat)]] w fun e w' => e = .returned (.tuple #[.int .i64 ((hof L x).getD 0), .bool (hof L x).isSome]) ∧ Aside (Keeps Nowhere w w') := by
  obtain ⟨mb, qb, hc, hm, hq, hb, hd, hne⟩ := h.it
  exact of_raw (fun W k => parts_raw (hc.1.later k (fun x => x))) (fun W k => (hq.later k (fun x => x)).look hx)
theorem of_nil (w : World) (hx : x.Wide) : Calls Tryd.prog 13 #[.pointer none, .agg #[.int .i64 x.c, .int .i64 x.l, .int .u32 (x.d : Nat)]] w fun e w' => e = .returned (.tuple #[.int .i64 0, .bool false]) ∧ Aside (Keeps Nowhere w w') :=
  of_raw (fun W _ => parts_nil W) (fun W _ => Maps.look_nil true keyed_place Tryd.underlying60 (zero_int W) (keyOf_place hx))
theorem mk_map1 (w : World) : (Instr.makeMap 59 none).run Tryd.prog w = .ok (.map (some w.heap.size)) (w.alloc (.map #[] 0)) := by kernel_rfl
theorem mk_map2 (w : World) : (Instr.makeMap 60 none).run Tryd.prog w = .ok (.map (some w.heap.size)) (w.alloc (.map #[] 0)) := by kernel_rfl
theorem new_at (w : World) (own : Nat → Nat) (i : Nat) : Calls Tryd.prog 9 #[] w fun e w' => ∃ p own', e = .returned (ptr p) ∧ Aside (HnO own' i w' p 0 [] ∧ w.heap.size ≤ p ∧ Sn (fun _ => False) own w own' w') := by
  have h1 := mk_map1 w
  have h2 := mk_map2 (w.alloc (.map #[] 0))
  go_enter Tryd.func9, Tryd.ntmps9
  go_wp2
  go_ret
  have K : Keeps Nowhere w (((w.alloc (.map #[] 0)).alloc (.map #[] 0)).alloc (.cells #[.int .i64 0, .map (some w.heap.size), .map (some (w.heap.size + 1))] 62)) := (((Keeps.refl _ _).alloc _).alloc _).alloc _
  have C := Cells.new ((w.alloc (.map #[] 0)).alloc (.map #[] 0)) 62 (hcel 0 w.heap.size (w.heap.size + 1))
  rw [World.size_alloc, World.size_alloc] at C
  have Q := MapQ.made (w.alloc (.map #[] 0))
  rw [World.size_alloc] at Q
  refine ⟨w.heap.size + 1 + 1, give own w.heap.size i, rfl, ⟨⟨⟨w.heap.size, w.heap.size + 1, ⟨C, give_new (by omega)⟩, (MapP.made w).later (S := Nowhere) (((Keeps.refl _ _).alloc _).alloc _) (fun x => x), Q.later (S := Nowhere) ((Keeps.refl _ _).alloc _) (fun x => x), give_new (Nat.le_refl _), give_new (by omega), by omega⟩, HOk.nil⟩, by omega, Sn.quiet K i⟩⟩
end Go.Proofs.YtjloedcikcamkaaDoor
