/-
  package stream: Frame.
-/
import Derived.Test.YteghehhifebhcaaDoorOStmH
import Derived.Deep.MidRow
import Derived.Deep.RegionHeld3
namespace Go.Proofs.YteghehhifebhcaaDoor
open Go.RowKit

section
variable {own own' : Nat → Nat} {i : Nat} {w w' w0 : World} {p : Nat} {A : Nat → Addr} {u : Int} {d : Dm} {cu : Bool} {sx cx ux rx : Value} {I : Nat → Prop}
def frameZ : List Value := [.int .u8 0, .int .u8 0, .int .u16 0, .int .u32 0, .int .u32 0, .slice none 0 0]
theorem frame_nil (w : World) : Calls Tryd.prog 21 #[.pointer none] w fun e w' => e = .returned (.tuple #[.agg frameZ.toArray, .bool false]) ∧ Aside (Keeps Nowhere w w') := by
  have R := Aside.mk (fun w => ready_nil w)
  go_enter Tryd.func21, Tryd.ntmps21
  go_wp2_with (first | (go_at_call 45; refine (R.it _).mono ?_; rintro e w' ⟨rfl, hw⟩; subst hw) | fail)
  go_returns
  exact ⟨rfl, ⟨Keeps.ofBelow (by go_grown)⟩⟩
theorem frame_no (h : StmI own i w p d) (hb : Behind w) (hr : d.ready = false) : Calls Tryd.prog 21 #[ptr p] w fun e w' => e = .returned (.tuple #[.agg frameZ.toArray, .bool false]) ∧ Aside (Keeps Nowhere w w') := by
  obtain ⟨ok, cu, u, sx, cx, ux, rx, h, hu⟩ := h
  have R : Aside (∀ w', Keeps Nowhere w w' → Calls Tryd.prog 45 #[ptr p] w' fun e w'' => e = .returned (.bool false) ∧ w'' = w') := ⟨fun w' k => by
    have := ready_at (h.quiet k) ok (hb.later k.bel)
    rw [hr] at this
    exact this⟩
  clear h hu ok hb hr
  go_enter Tryd.func21, Tryd.ntmps21
  go_wp2_with (first | (go_at_call 45; refine (R.it _ ((Keeps.refl _ _).alloc _)).mono ?_; rintro e w' ⟨rfl, hw⟩; subst hw) | fail)
  go_returns
  exact ⟨rfl, ⟨Keeps.ofBelow (by go_grown)⟩⟩
/-- Frame's world: the stream, the ground, the answer's box q -/
structure Fr (A : Nat → Addr) (w0 : World) (ownS : Nat → Nat) (wS : World) (i p : Nat) (cu : Bool) (u : Int) (sx cx ux rx : Value) (q r : Nat) (d : Dm) (own : Nat → Nat) (W : World) : Prop where
  s : StmO own i W p d cu u sx cx ux rx
  g : Gs A w0 own W
  z : CellsO own r W q 65 frameZ
  k : Sn (Five i) ownS wS own W
  q1 : q = wS.heap.size
  p1 : p < wS.heap.size
  i1 : 1 ≤ i
  r1 : ¬ Five i r
variable {ownS : Nat → Nat} {wS W W' : World} {q r : Nat}
theorem Fr.quiet (h : Fr A w0 ownS wS i p cu u sx cx ux rx q r d own W) (k : Keeps Nowhere W W') : Fr A w0 ownS wS i p cu u sx cx ux rx q r d own W' :=
  { h with s := h.s.quiet k, g := h.g.quiet k, z := h.z.quiet k, k := h.k.trans (Sn.same k) }
theorem Fr.fresh (h : Fr A w0 ownS wS i p cu u sx cx ux rx q r d own W) (k : Keeps Nowhere W W') : Fr A w0 ownS wS i p cu u sx cx ux rx q r d (give own W.heap.size r) W' :=
  { h with s := h.s.sn (I := fun _ => False) (Sn.quiet k r) (fun _ _ _ x => x), g := h.g.sn (I := fun _ => False) (Sn.quiet k r) (fun x => x), z := h.z.sn (I := fun _ => False) (Sn.quiet k r) (fun x => x), k := h.k.trans (Sn.quiet k r) }
theorem Fr.next {j : Nat} {d' : Dm} {sx' cx' : Value} (h : Fr A w0 ownS wS i p cu u sx cx ux rx q r d own W) (hs : StmO own' i W' p d' cu u sx' cx' ux rx) (s : Sn (fun k => k = j) own W own' W') (j1 : i ≤ j) (j2 : j < i + 5) : Fr A w0 ownS wS i p cu u sx' cx' ux rx q r d' own' W' :=
  { h with s := hs, g := h.g.sn s (by have := h.i1; omega), z := h.z.sn s (fun e => h.r1 (by rw [e]; exact ⟨j1, j2⟩)), k := h.k.trans (s.five j1 j2) }
theorem Fr.cells (h : Aside (Fr A w0 ownS wS i p cu u sx cx ux rx q r d own W)) : W.cell? ⟨p, 0, none⟩ = some (.int .u32 d.id) ∧ W.cell? ⟨p, 8, none⟩ = some sx := by
  have := h.it.s.box.1.cell
  exact ⟨this 0, this 8⟩
theorem Fr.cellsA (h : Aside (Fr A w0 ownS wS i p cu u sx cx ux rx q r d own W)) (o : Obj) : (W.alloc o).cell? ⟨p, 0, none⟩ = some (.int .u32 d.id) ∧ (W.alloc o).cell? ⟨p, 8, none⟩ = some sx := by
  have := (h.it.s.box.1.later ((Keeps.refl Nowhere W).alloc o) (fun x => x)).cell
  exact ⟨this 0, this 8⟩
theorem Fr.cells6 (h : Aside (Fr A w0 ownS wS i p cu u sx cx ux rx q r d own W)) (b : Nat) (hb : p ≠ b) (v0 v1 v2 v3 v4 v5 : Value) : ((((((W.setCell ⟨b, 0, none⟩ v0).setCell ⟨b, 1, none⟩ v1).setCell ⟨b, 2, none⟩ v2).setCell ⟨b, 3, none⟩ v3).setCell ⟨b, 4, none⟩ v4).setCell ⟨b, 5, none⟩ v5).cell? ⟨p, 0, none⟩ = some (.int .u32 d.id) ∧ ((((((W.setCell ⟨b, 0, none⟩ v0).setCell ⟨b, 1, none⟩ v1).setCell ⟨b, 2, none⟩ v2).setCell ⟨b, 3, none⟩ v3).setCell ⟨b, 4, none⟩ v4).setCell ⟨b, 5, none⟩ v5).cell? ⟨p, 8, none⟩ = some sx := by
  have := ((((((h.it.s.box.1.setOther ⟨b, 0, none⟩ v0 hb).setOther ⟨b, 1, none⟩ v1 hb).setOther ⟨b, 2, none⟩ v2 hb).setOther ⟨b, 3, none⟩ v3 hb).setOther ⟨b, 4, none⟩ v4 hb).setOther ⟨b, 5, none⟩ v5 hb).cell
  exact ⟨this 0, this 8⟩
theorem fr_new (h : Aside (Fr A w0 ownS wS i p cu u sx cx ux rx q r d own W)) : Aside (Fr A w0 ownS wS i p cu u sx cx ux rx q r d (give own W.heap.size r) (W.alloc (.cells #[.int .u8 0, .int .u8 0, .int .u16 0, .int .u32 0, .int .u32 0, .slice none 0 0] 65))) := ⟨h.it.fresh ((Keeps.refl _ _).alloc _)⟩
theorem fr_lt (h : Aside (Fr A w0 ownS wS i p cu u sx cx ux rx q r d own W)) : p ≠ W.heap.size := Nat.ne_of_lt h.it.s.box.1.lt
theorem frz_facts {b : Nat} (C : Cells W b 65 frameZ) : W.cell? ⟨b, 0, none⟩ = some (.int .u8 0) ∧ W.cell? ⟨b, 1, none⟩ = some (.int .u8 0) ∧ W.cell? ⟨b, 2, none⟩ = some (.int .u16 0) ∧ W.cell? ⟨b, 3, none⟩ = some (.int .u32 0) ∧ W.cell? ⟨b, 4, none⟩ = some (.int .u32 0) ∧ W.cell? ⟨b, 5, none⟩ = some (.slice none 0 0) ∧ W.frozen? ⟨b, 0, none⟩ = false ∧ W.frozen? ⟨b, 1, none⟩ = false ∧ W.frozen? ⟨b, 2, none⟩ = false ∧ W.frozen? ⟨b, 3, none⟩ = false ∧ W.frozen? ⟨b, 4, none⟩ = false ∧ W.frozen? ⟨b, 5, none⟩ = false := by
  have c := C.cell
  have f := C.frozen
  exact ⟨c 0, c 1, c 2, c 3, c 4, c 5, f 0, f 1, f 2, f 3, f 4, f 5⟩
theorem fr_newc (_h : Aside (Fr A w0 ownS wS i p cu u sx cx ux rx q r d own W)) : (W.alloc (.cells #[.int .u8 0, .int .u8 0, .int .u16 0, .int .u32 0, .int .u32 0, .slice none 0 0] 65)).cell? ⟨W.heap.size, 0, none⟩ = some (.int .u8 0) ∧ (W.alloc (.cells #[.int .u8 0, .int .u8 0, .int .u16 0, .int .u32 0, .int .u32 0, .slice none 0 0] 65)).cell? ⟨W.heap.size, 1, none⟩ = some (.int .u8 0) ∧ (W.alloc (.cells #[.int .u8 0, .int .u8 0, .int .u16 0, .int .u32 0, .int .u32 0, .slice none 0 0] 65)).cell? ⟨W.heap.size, 2, none⟩ = some (.int .u16 0) ∧ (W.alloc (.cells #[.int .u8 0, .int .u8 0, .int .u16 0, .int .u32 0, .int .u32 0, .slice none 0 0] 65)).cell? ⟨W.heap.size, 3, none⟩ = some (.int .u32 0) ∧ (W.alloc (.cells #[.int .u8 0, .int .u8 0, .int .u16 0, .int .u32 0, .int .u32 0, .slice none 0 0] 65)).cell? ⟨W.heap.size, 4, none⟩ = some (.int .u32 0) ∧ (W.alloc (.cells #[.int .u8 0, .int .u8 0, .int .u16 0, .int .u32 0, .int .u32 0, .slice none 0 0] 65)).cell? ⟨W.heap.size, 5, none⟩ = some (.slice none 0 0) ∧ (W.alloc (.cells #[.int .u8 0, .int .u8 0, .int .u16 0, .int .u32 0, .int .u32 0, .slice none 0 0] 65)).frozen? ⟨W.heap.size, 0, none⟩ = false ∧ (W.alloc (.cells #[.int .u8 0, .int .u8 0, .int .u16 0, .int .u32 0, .int .u32 0, .slice none 0 0] 65)).frozen? ⟨W.heap.size, 1, none⟩ = false ∧ (W.alloc (.cells #[.int .u8 0, .int .u8 0, .int .u16 0, .int .u32 0, .int .u32 0, .slice none 0 0] 65)).frozen? ⟨W.heap.size, 2, none⟩ = false ∧ (W.alloc (.cells #[.int .u8 0, .int .u8 0, .int .u16 0, .int .u32 0, .int .u32 0, .slice none 0 0] 65)).frozen? ⟨W.heap.size, 3, none⟩ = false ∧ (W.alloc (.cells #[.int .u8 0, .int .u8 0, .int .u16 0, .int .u32 0, .int .u32 0, .slice none 0 0] 65)).frozen? ⟨W.heap.size, 4, none⟩ = false ∧ (W.alloc (.cells #[.int .u8 0, .int .u8 0, .int .u16 0, .int .u32 0, .int .u32 0, .slice none 0 0] 65)).frozen? ⟨W.heap.size, 5, none⟩ = false := frz_facts (W := (W.alloc (.cells #[.int .u8 0, .int .u8 0, .int .u16 0, .int .u32 0, .int .u32 0, .slice none 0 0] 65))) (Cells.new W _ _)
theorem fr_oldc {b : Nat} {o5 : Nat → Nat} {w5 : World} {v : Value} {xs : List Value} (hr : Aside (¬ Five i r)) (C : Aside (CellsO own r W b 65 frameZ)) (X : Aside (RowO o5 r w5 5 v xs ∧ Sn (fun k => k = i + 1) own W o5 w5)) : w5.cell? ⟨b, 0, none⟩ = some (.int .u8 0) ∧ w5.cell? ⟨b, 1, none⟩ = some (.int .u8 0) ∧ w5.cell? ⟨b, 2, none⟩ = some (.int .u16 0) ∧ w5.cell? ⟨b, 3, none⟩ = some (.int .u32 0) ∧ w5.cell? ⟨b, 4, none⟩ = some (.int .u32 0) ∧ w5.cell? ⟨b, 5, none⟩ = some (.slice none 0 0) ∧ w5.frozen? ⟨b, 0, none⟩ = false ∧ w5.frozen? ⟨b, 1, none⟩ = false ∧ w5.frozen? ⟨b, 2, none⟩ = false ∧ w5.frozen? ⟨b, 3, none⟩ = false ∧ w5.frozen? ⟨b, 4, none⟩ = false ∧ w5.frozen? ⟨b, 5, none⟩ = false :=
  frz_facts (C.it.sn X.it.2 (fun e => hr.it (by rw [e]; exact ⟨by omega, by omega⟩))).1
theorem fr_pop (h : Aside (Fr A w0 ownS wS i p cu u sx cx ux rx q r d own W)) (K : Nat) (hK : K ≤ d.staged.length) :
    Calls Tryd.prog 48 #[sx, .int .i64 K] W fun e w' => ∃ sq own', e = .returned (.slice sq K K) ∧ Aside (Fr A w0 ownS wS i p cu u sx cx ux rx q r { d with staged := d.staged.drop K } own' w') ∧ Aside (RowO own' r w' 5 (.slice sq K K) (bv (d.staged.take K)) ∧ Sn (fun k => k = i + 1) own W own' w') := by
  have P := pop_ring (r := r) h.it.s.pt.stg K
  rw [show min (K : Int).toNat d.staged.length = K by rw [Int.toNat_natCast]; omega, Int.toNat_natCast] at P
  refine P.mono ?_
  rintro e w' ⟨sq, own', rfl, X⟩
  exact ⟨sq, own', rfl, ⟨h.it.next (h.it.s.staged X.it.2.2 X.it.2.1) X.it.2.2 (by omega) (by omega)⟩, ⟨X.it.1, X.it.2.2⟩⟩
theorem frK_val (ok : d.Ok) : (if d.frame < (if d.credit < (d.staged.length : Int) then d.credit else (d.staged.length : Int)) then d.frame else if d.credit < (d.staged.length : Int) then d.credit else (d.staged.length : Int)) = ((d.frK : Nat) : Int) := by
  have := ok.cr1
  have := ok.frame1
  unfold Dm.frK
  repeat' split
  all_goals omega
/-- Frame's world behind its literal: the frame's box b -/
structure Fs (A : Nat → Addr) (w0 : World) (ownS : Nat → Nat) (wS : World) (i p : Nat) (cu : Bool) (u : Int) (sx cx ux rx : Value) (q r : Nat) (b K : Nat) (fl hd : Int) (sq : Option Addr) (xs : List Int) (d : Dm) (own : Nat → Nat) (W : World) : Prop where
  f : Fr A w0 ownS wS i p cu u sx cx ux rx q r d own W
  bx : CellsO own r W b 65 [.int .u8 0, .int .u8 0, .int .u16 fl, .int .u32 hd, .int .u32 K, .slice sq K K]
  row : RowO own r W 5 (.slice sq K K) (bv xs)
  b1 : wS.heap.size < b
variable {b K : Nat} {fl hd : Int} {sq : Option Addr} {xs : List Int}
theorem row_box {v : Value} {ys cs : List Value} (h : RowAt W 5 v ys) (c : Cells W b 65 cs) : ∀ k, v.ownBlock = some k → k ≠ b := by
  intro k hk e
  subst e
  rcases h with ⟨rfl, _⟩ | ⟨g, rfl, hc⟩
  · cases hk
  · obtain rfl : g = k := by simpa [Value.ownBlock] using hk
    have : (some (Obj.cells ys.toArray 5) : Option Obj) = some (Obj.cells cs.toArray 65) := hc.symm.trans c
    simp at this
theorem Fr.setb {cs : List Value} (h : Fr A w0 ownS wS i p cu u sx cx ux rx q r d own W) (r0 : r ≠ 0) (hb : CellsO own r W b 65 cs) (b1 : wS.heap.size < b) (k : Keeps (fun k => k = b) W W') : Fr A w0 ownS wS i p cu u sx cx ux rx q r d own W' := by
  have s : Sn (fun k => k = r) own W own W' := ⟨fun _ _ => rfl, k.mono (fun x e _ => by subst e; exact hb.2)⟩
  exact { h with s := h.s.sn s (fun j a c e => h.r1 (by rw [← e]; exact ⟨a, c⟩)), g := h.g.sn s (fun e => r0 e.symm), z := ⟨h.z.1.later k (fun e => by have := h.q1; omega), h.z.2⟩, k := ⟨fun x hx => h.k.agree x hx, h.k.keeps.next k (fun x e hx => by omega)⟩ }
theorem fs_new (h : Aside (Fr A w0 ownS wS i p cu u sx cx ux rx q r d own W)) (X : RowO own r W 5 (.slice sq K K) (bv xs)) : Aside (Fs A w0 ownS wS i p cu u sx cx ux rx q r W.heap.size K 0 hd sq xs d (give own W.heap.size r) (W.alloc (.cells #[.int .u8 0, .int .u8 0, .int .u16 0, .int .u32 hd, .int .u32 K, .slice sq K K] 65))) := by
  have k : Keeps Nowhere W (W.alloc (.cells #[.int .u8 0, .int .u8 0, .int .u16 0, .int .u32 hd, .int .u32 K, .slice sq K K] 65)) := (Keeps.refl _ _).alloc _
  refine ⟨⟨h.it.fresh k, ⟨Cells.new W _ _, give_new (Nat.le_refl _)⟩, rowO_sn (I := fun _ => False) X (Sn.quiet k r) (fun x => x), ?_⟩⟩
  have := h.it.z.1.lt
  have := h.it.q1
  omega
theorem fs_old (h : Aside (Fr A w0 ownS wS i p cu u sx cx ux rx q r d own W)) (X : RowO own r W 5 (.slice sq K K) (bv xs)) (r0 : r ≠ 0) (C : Aside (CellsO own r W b 65 frameZ)) (b1 : wS.heap.size < b) : Aside (Fs A w0 ownS wS i p cu u sx cx ux rx q r b K 0 hd sq xs d own ((((((W.setCell ⟨b, 0, none⟩ (.int .u8 0)).setCell ⟨b, 1, none⟩ (.int .u8 0)).setCell ⟨b, 2, none⟩ (.int .u16 0)).setCell ⟨b, 3, none⟩ (.int .u32 hd)).setCell ⟨b, 4, none⟩ (.int .u32 K)).setCell ⟨b, 5, none⟩ (.slice sq K K))) := by
  have k : Keeps (fun k => k = b) W ((((((W.setCell ⟨b, 0, none⟩ (.int .u8 0)).setCell ⟨b, 1, none⟩ (.int .u8 0)).setCell ⟨b, 2, none⟩ (.int .u16 0)).setCell ⟨b, 3, none⟩ (.int .u32 hd)).setCell ⟨b, 4, none⟩ (.int .u32 K)).setCell ⟨b, 5, none⟩ (.slice sq K K)) := (((((((Keeps.refl (fun k => k = b) W).setCell _ _ (fun _ => rfl)).setCell _ _ (fun _ => rfl)).setCell _ _ (fun _ => rfl)).setCell _ _ (fun _ => rfl)).setCell _ _ (fun _ => rfl)).setCell _ _ (fun _ => rfl))
  have ro : RowO own r ((((((W.setCell ⟨b, 0, none⟩ (.int .u8 0)).setCell ⟨b, 1, none⟩ (.int .u8 0)).setCell ⟨b, 2, none⟩ (.int .u16 0)).setCell ⟨b, 3, none⟩ (.int .u32 hd)).setCell ⟨b, 4, none⟩ (.int .u32 K)).setCell ⟨b, 5, none⟩ (.slice sq K K)) 5 (.slice sq K K) (bv xs) := ⟨X.1.later k (fun j hj e => row_box X.1 C.it.1 j hj e), X.2⟩
  exact ⟨⟨h.it.setb r0 C.it b1 k, ⟨((((((C.it.1.setCell 0 _).setCell 1 _).setCell 2 _).setCell 3 _).setCell 4 _).setCell 5 _), C.it.2⟩, ro, b1⟩⟩
theorem Fs.next {j : Nat} {d' : Dm} {sx' cx' : Value} (h : Fs A w0 ownS wS i p cu u sx cx ux rx q r b K fl hd sq xs d own W) (hs : StmO own' i W' p d' cu u sx' cx' ux rx) (s : Sn (fun k => k = j) own W own' W') (j1 : i ≤ j) (j2 : j < i + 5) : Fs A w0 ownS wS i p cu u sx' cx' ux rx q r b K fl hd sq xs d' own' W' :=
  ⟨h.f.next hs s j1 j2, h.bx.sn s (fun e => h.f.r1 (by rw [e]; exact ⟨j1, j2⟩)), rowO_sn h.row s (fun e => h.f.r1 (by rw [e]; exact ⟨j1, j2⟩)), h.b1⟩
theorem Fs.flag (h : Fs A w0 ownS wS i p cu u sx cx ux rx q r b K 0 hd sq xs d own W) (r0 : r ≠ 0) : Fs A w0 ownS wS i p cu u sx cx ux rx q r b K 4 hd sq xs d own (W.setCell ⟨b, 2, none⟩ (.int .u16 4)) := by
  have k : Keeps (fun k => k = b) W (W.setCell ⟨b, 2, none⟩ (.int .u16 4)) := (Keeps.refl _ _).setCell _ _ (fun _ => rfl)
  exact ⟨h.f.setb r0 h.bx h.b1 k, ⟨h.bx.1.setCell 2 _, h.bx.2⟩, ⟨h.row.1.later k (fun j hj e => row_box h.row.1 h.bx.1 j hj e), h.row.2⟩, h.b1⟩
theorem Fs.facts (h : Aside (Fs A w0 ownS wS i p cu u sx cx ux rx q r b K fl hd sq xs d own W)) : W.cell? ⟨b, 0, none⟩ = some (.int .u8 0) ∧ W.cell? ⟨b, 1, none⟩ = some (.int .u8 0) ∧ W.cell? ⟨b, 2, none⟩ = some (.int .u16 fl) ∧ W.cell? ⟨b, 3, none⟩ = some (.int .u32 hd) ∧ W.cell? ⟨b, 4, none⟩ = some (.int .u32 K) ∧ W.cell? ⟨b, 5, none⟩ = some (.slice sq K K) ∧ W.cell? ⟨q, 0, none⟩ = some (.int .u8 0) ∧ W.cell? ⟨q, 1, none⟩ = some (.int .u8 0) ∧ W.cell? ⟨q, 2, none⟩ = some (.int .u16 0) ∧ W.cell? ⟨q, 3, none⟩ = some (.int .u32 0) ∧ W.cell? ⟨q, 4, none⟩ = some (.int .u32 0) ∧ W.cell? ⟨q, 5, none⟩ = some (.slice none 0 0) ∧ W.frozen? ⟨q, 0, none⟩ = false ∧ W.frozen? ⟨q, 1, none⟩ = false ∧ W.frozen? ⟨q, 2, none⟩ = false ∧ W.frozen? ⟨q, 3, none⟩ = false ∧ W.frozen? ⟨q, 4, none⟩ = false ∧ W.frozen? ⟨q, 5, none⟩ = false := by
  have c := h.it.bx.1.cell
  have e := h.it.f.z.1.cell
  have f := h.it.f.z.1.frozen
  exact ⟨c 0, c 1, c 2, c 3, c 4, c 5, e 0, e 1, e 2, e 3, e 4, e 5, f 0, f 1, f 2, f 3, f 4, f 5⟩
/-- the end: the answer is stored -/
theorem Fs.done (h : Aside (Fs A w0 ownS wS i p cu u sx cx ux rx q r b K fl hd sq xs d own W)) (ok : d.Ok) (hu : d.deaf = false → u = d.unread.length) : ((((((((W.setCell ⟨q, 0, none⟩ (.int .u8 0)).setCell ⟨q, 1, none⟩ (.int .u8 0)).setCell ⟨q, 2, none⟩ (.int .u16 fl)).setCell ⟨q, 3, none⟩ (.int .u32 hd)).setCell ⟨q, 4, none⟩ (.int .u32 K)).setCell ⟨q, 5, none⟩ (.slice sq K K))).cell? ⟨q, 0, none⟩ = some (.int .u8 0) ∧ (((((((W.setCell ⟨q, 0, none⟩ (.int .u8 0)).setCell ⟨q, 1, none⟩ (.int .u8 0)).setCell ⟨q, 2, none⟩ (.int .u16 fl)).setCell ⟨q, 3, none⟩ (.int .u32 hd)).setCell ⟨q, 4, none⟩ (.int .u32 K)).setCell ⟨q, 5, none⟩ (.slice sq K K))).cell? ⟨q, 1, none⟩ = some (.int .u8 0) ∧ (((((((W.setCell ⟨q, 0, none⟩ (.int .u8 0)).setCell ⟨q, 1, none⟩ (.int .u8 0)).setCell ⟨q, 2, none⟩ (.int .u16 fl)).setCell ⟨q, 3, none⟩ (.int .u32 hd)).setCell ⟨q, 4, none⟩ (.int .u32 K)).setCell ⟨q, 5, none⟩ (.slice sq K K))).cell? ⟨q, 2, none⟩ = some (.int .u16 fl) ∧ (((((((W.setCell ⟨q, 0, none⟩ (.int .u8 0)).setCell ⟨q, 1, none⟩ (.int .u8 0)).setCell ⟨q, 2, none⟩ (.int .u16 fl)).setCell ⟨q, 3, none⟩ (.int .u32 hd)).setCell ⟨q, 4, none⟩ (.int .u32 K)).setCell ⟨q, 5, none⟩ (.slice sq K K))).cell? ⟨q, 3, none⟩ = some (.int .u32 hd) ∧ (((((((W.setCell ⟨q, 0, none⟩ (.int .u8 0)).setCell ⟨q, 1, none⟩ (.int .u8 0)).setCell ⟨q, 2, none⟩ (.int .u16 fl)).setCell ⟨q, 3, none⟩ (.int .u32 hd)).setCell ⟨q, 4, none⟩ (.int .u32 K)).setCell ⟨q, 5, none⟩ (.slice sq K K))).cell? ⟨q, 4, none⟩ = some (.int .u32 K) ∧ (((((((W.setCell ⟨q, 0, none⟩ (.int .u8 0)).setCell ⟨q, 1, none⟩ (.int .u8 0)).setCell ⟨q, 2, none⟩ (.int .u16 fl)).setCell ⟨q, 3, none⟩ (.int .u32 hd)).setCell ⟨q, 4, none⟩ (.int .u32 K)).setCell ⟨q, 5, none⟩ (.slice sq K K))).cell? ⟨q, 5, none⟩ = some (.slice sq K K)) ∧ Left5r ownS i wS p d r (.slice sq K K) xs ((((((W.setCell ⟨q, 0, none⟩ (.int .u8 0)).setCell ⟨q, 1, none⟩ (.int .u8 0)).setCell ⟨q, 2, none⟩ (.int .u16 fl)).setCell ⟨q, 3, none⟩ (.int .u32 hd)).setCell ⟨q, 4, none⟩ (.int .u32 K)).setCell ⟨q, 5, none⟩ (.slice sq K K)) := by
  have z : Cells ((((((W.setCell ⟨q, 0, none⟩ (.int .u8 0)).setCell ⟨q, 1, none⟩ (.int .u8 0)).setCell ⟨q, 2, none⟩ (.int .u16 fl)).setCell ⟨q, 3, none⟩ (.int .u32 hd)).setCell ⟨q, 4, none⟩ (.int .u32 K)).setCell ⟨q, 5, none⟩ (.slice sq K K)) q 65 [.int .u8 0, .int .u8 0, .int .u16 fl, .int .u32 hd, .int .u32 K, .slice sq K K] := ((((((h.it.f.z.1.setCell 0 _).setCell 1 _).setCell 2 _).setCell 3 _).setCell 4 _).setCell 5 _)
  have c := z.cell
  have k : Keeps (fun k => k = q) W ((((((W.setCell ⟨q, 0, none⟩ (.int .u8 0)).setCell ⟨q, 1, none⟩ (.int .u8 0)).setCell ⟨q, 2, none⟩ (.int .u16 fl)).setCell ⟨q, 3, none⟩ (.int .u32 hd)).setCell ⟨q, 4, none⟩ (.int .u32 K)).setCell ⟨q, 5, none⟩ (.slice sq K K)) := (((((((Keeps.refl (fun k => k = q) W).setCell _ _ (fun _ => rfl)).setCell _ _ (fun _ => rfl)).setCell _ _ (fun _ => rfl)).setCell _ _ (fun _ => rfl)).setCell _ _ (fun _ => rfl)).setCell _ _ (fun _ => rfl))
  have s : Sn (fun k => k = r) own W own ((((((W.setCell ⟨q, 0, none⟩ (.int .u8 0)).setCell ⟨q, 1, none⟩ (.int .u8 0)).setCell ⟨q, 2, none⟩ (.int .u16 fl)).setCell ⟨q, 3, none⟩ (.int .u32 hd)).setCell ⟨q, 4, none⟩ (.int .u32 K)).setCell ⟨q, 5, none⟩ (.slice sq K K)) := ⟨fun _ _ => rfl, k.mono (fun x e _ => by subst e; exact h.it.f.z.2)⟩
  refine ⟨⟨c 0, c 1, c 2, c 3, c 4, c 5⟩, own, ⟨ok, cu, u, sx, cx, ux, rx, h.it.f.s.sn s (fun j a c e => h.it.f.r1 (by rw [← e]; exact ⟨a, c⟩)), hu⟩, ⟨h.it.row.1.later k (fun j hj e => row_box h.it.row.1 h.it.f.z.1 j hj e), h.it.row.2⟩, ⟨fun x hx => h.it.f.k.agree x hx, h.it.f.k.keeps.next k (fun x e hx => by have := h.it.f.q1; omega)⟩⟩
set_option maxHeartbeats 4000000 in
/-- what Frame leaves: the payload is r's -/
theorem frame_yes (h : StmI own i w p d) (hg : Gs A w0 own w) (i1 : 1 ≤ i) (hr : d.ready = true) (r : Nat) (hi : ¬ Five i r) (r0 : r ≠ 0) :
    Calls Tryd.prog 21 #[ptr p] w fun e w' => ∃ sq m, e = .returned (.tuple #[.agg #[.int .u8 0, .int .u8 0, .int .u16 (if d.frL then 4 else 0), .int .u32 d.id, .int .u32 d.frK, .slice sq m m], .bool true]) ∧ Aside (m = (d.staged.take d.frK).length) ∧ Aside (Left5r own i w p d.frD r (.slice sq m m) (d.staged.take d.frK) w') := by
  have h9 := hg.st
  obtain ⟨ok, cu, u, sx, cx, ux, rx, h, hu⟩ := h
  obtain ⟨w1, hw1⟩ : ∃ w1, w1 = w.alloc (.cells frameZ.toArray 65) := ⟨_, rfl⟩
  have K1 : Keeps Nowhere w w1 := by rw [hw1]; exact (Keeps.refl _ _).alloc _
  have C1 : Cells w1 w.heap.size 65 frameZ := by rw [hw1]; exact Cells.new w _ _
  have sn1 : Sn (fun _ => False) own w (give own w.heap.size r) w1 := Sn.quiet K1 r
  have F1 : Aside (Fr A w0 own w i p cu u sx cx ux rx w.heap.size r d (give own w.heap.size r) w1) :=
    ⟨⟨h.sn sn1 (fun _ _ _ x => x), hg.sn sn1 (fun x => x), ⟨C1, give_new (Nat.le_refl _)⟩, sn1.mono (fun _ x => x.elim), rfl, h.box.1.lt, i1, hi⟩⟩
  generalize give own w.heap.size r = own1 at F1
  have R := Aside.mk (ready_at F1.it.s ok F1.it.g.st.tab)
  rw [hr] at R
  have ho : d.off = false := by
    unfold Dm.ready at hr
    revert hr
    cases d.off <;> simp
  have L1 := Aside.mk (fun m => len_q F1.it.s m)
  have V1 : Aside (∀ m, Calls Tryd.prog 47 #[cx] (w1.drewN m) fun e w' => e = .returned (.int .u32 d.credit) ∧ ∃ k, w' = w1.drewN k) := ⟨fun m => by
    have := haveV (F1.it.s.drewN m).pt.crd
    rw [ho, if_neg (by decide)] at this
    exact this.mono (fun _ _ x => ⟨x.1, m, x.2⟩)⟩
  have c1 : w1.cell? ⟨p, 1, none⟩ = some (.int .i64 d.frame) := F1.it.s.box.1.cell 1
  have c8 : w1.cell? ⟨p, 8, none⟩ = some sx := F1.it.s.box.1.cell 8
  have c9 : w1.cell? ⟨p, 9, none⟩ = some cx := F1.it.s.box.1.cell 9
  have k1 := ok.cr1
  have k2 := ok.cr2
  have k3 := ok.win2
  unfold frameZ at hw1
  have cw : IntKind.i64.wrap d.credit = d.credit := by rw [IntKind.wrap_i64]; omega
  have OK := Aside.mk ok
  have kv := Aside.mk (frK_val ok)
  have kl := Aside.mk (Dm.frK_le d)
  have RD := Aside.mk hr
  obtain ⟨FL, hF⟩ : ∃ FL : Int, Aside (FL = if d.frL then 4 else 0) := ⟨_, ⟨rfl⟩⟩
  rw [← hF.it]
  have HU := Aside.mk hu
  clear h K1 C1 sn1 hg h9 k3 hr hu
  go_enter Tryd.func21, Tryd.ntmps21
  go_upto_region 1 with fail
  rw [← hw1]
  clear hw1
  go_upto_region 3 with (first | (go_at_call 45; refine R.it.mono ?_; rintro e w' ⟨rfl, rfl⟩) | fail)
  go_quiet (first | (go_at_call 46; with_reducible exact L1.it _) | (go_at_call 47; with_reducible exact V1.it _))
  go_upto_region 4 with fail
  rw [kv.it]
  have F2 : Aside (Fr A w0 own w i p cu u sx cx ux rx w.heap.size r d own1 (w'.drewN nq)) := ⟨F1.it.quiet ((Keeps.refl _ _).drewN nq)⟩
  generalize w'.drewN nq = w2 at F2 ⊢
  clear c1 c8 c9 L1 V1 R F1
  obtain ⟨K, hK⟩ : ∃ K, K = d.frK := ⟨_, rfl⟩
  rw [← hK]
  have kw : IntKind.u32.wrap ((K : Nat) : Int) = K := by
    have := kl.it
    rw [← hK] at this
    have := OK.it.frame2
    rw [IntKind.wrap_u32]
    omega
  have hKl : Aside (K ≤ d.staged.length ∧ (K : Int) ≤ d.credit) := ⟨by have := kl.it; rw [hK]; omega⟩
  have HK := Aside.mk hK
  clear hK k1 k2 cw kv kl
  obtain ⟨q, hq⟩ : ∃ q, Aside (q = w.heap.size) := ⟨_, ⟨rfl⟩⟩
  rw [← hq.it] at F2 ⊢
  have F2d : Aside (Fr A w0 own w i p cu u sx cx ux rx q r d own1 w2.drew) := ⟨F2.it.quiet (Keeps.refl _ _).drew⟩
  have F2a : Aside (Fr A w0 own w i p cu u sx cx ux rx q r d (give own1 w2.heap.size r) (w2.alloc (.cells #[.int .u8 0, .int .u8 0, .int .u16 0, .int .u32 0, .int .u32 0, .slice none 0 0] 65)).drew) := ⟨F2.it.fresh ((Keeps.refl _ _).alloc _).drew⟩
  have FP := Aside.mk (fun o W (g : Aside (Fr A w0 own w i p cu u sx cx ux rx q r d o W)) => fr_pop g K hKl.it.1)
  have CB : Aside (CellsO (give own1 w2.heap.size r) r (w2.alloc (.cells #[.int .u8 0, .int .u8 0, .int .u16 0, .int .u32 0, .int .u32 0, .slice none 0 0] 65)).drew w2.heap.size 65 frameZ) := ⟨(Cells.new w2 _ _).drew, give_new (Nat.le_refl _)⟩
  have HR := Aside.mk hi
  have NB2 : p ≠ w2.heap.size := Nat.ne_of_lt F2.it.s.box.1.lt
  go_region_held3 (fun w' => w'.cell? ⟨p, 0, none⟩ = some (.int .u32 d.id) ∧ w'.cell? ⟨p, 8, none⟩ = some sx) (first | with_reducible exact Fr.cells (d := d) (by with_reducible assumption) | with_reducible exact Fr.cells (d := { d with staged := d.staged.drop K }) (by with_reducible assumption) | with_reducible exact Fr.cellsA (d := d) (by with_reducible assumption) _ | with_reducible exact Fr.cellsA (d := { d with staged := d.staged.drop K }) (by with_reducible assumption) _ | with_reducible exact Fr.cells6 (d := { d with staged := d.staged.drop K }) (by with_reducible assumption) _ (by first | exact NB5 | exact NB2) _ _ _ _ _ _) (
     (go_at_call 48; with_reducible refine (FP.it _ _ (by with_reducible assumption)).mono ?_; rintro e w5 ⟨sq, own5, rfl, F5, X5⟩; have F5a := fr_new F5; have NB5 := fr_lt F5; first | (obtain ⟨z0, z1, z2, z3, z4, z5, y0, y1, y2, y3, y4, y5⟩ := fr_oldc HR CB X5) | (obtain ⟨z0, z1, z2, z3, z4, z5, y0, y1, y2, y3, y4, y5⟩ := fr_newc F5)))
  all_goals first
    | (obtain ⟨w6, hw6⟩ : ∃ w6, w6 = w5.alloc (.cells #[.int .u8 0, .int .u8 0, .int .u16 0, .int .u32 d.id, .int .u32 K, .slice sq K K] 65) := ⟨_, rfl⟩
       have X6 : Aside (Fs A w0 own w i p cu u sx cx ux rx q r w5.heap.size K 0 d.id sq (d.staged.take K) { d with staged := d.staged.drop K } (give own5 w5.heap.size r) w6) := by rw [hw6]; exact fs_new F5 X5.it.1
       rw [← hw6]
       clear hw6 z0 z1 z2 z3 z4 z5 y0 y1 y2 y3 y4 y5 NB5 F5a
       generalize give own5 w5.heap.size r = own6 at X6
       generalize w5.heap.size = b at X6 ⊢
       clear F5 X5 F2 F2d F2a FP CB NB2)
    | (obtain ⟨w6, hw6⟩ : ∃ w6, w6 = ((((((w5.setCell ⟨w2.heap.size, 0, none⟩ (.int .u8 0)).setCell ⟨w2.heap.size, 1, none⟩ (.int .u8 0)).setCell ⟨w2.heap.size, 2, none⟩ (.int .u16 0)).setCell ⟨w2.heap.size, 3, none⟩ (.int .u32 d.id)).setCell ⟨w2.heap.size, 4, none⟩ (.int .u32 K)).setCell ⟨w2.heap.size, 5, none⟩ (.slice sq K K)) := ⟨_, rfl⟩
       have X6 : Aside (Fs A w0 own w i p cu u sx cx ux rx q r w2.heap.size K 0 d.id sq (d.staged.take K) { d with staged := d.staged.drop K } own5 w6) := by
         rw [hw6]
         refine fs_old F5 X5.it.1 r0 ⟨CB.it.sn X5.it.2 (fun e => hi (by rw [e]; exact ⟨by omega, by omega⟩))⟩ ?_
         have := F2.it.z.1.lt
         have := F2.it.q1
         omega
       rw [← hw6]
       clear hw6 z0 z1 z2 z3 z4 z5 y0 y1 y2 y3 y4 y5 NB5 F5a
       generalize own5 = own6 at X6
       generalize w2.heap.size = b at X6 ⊢
       clear F5 X5 F2 F2d F2a FP CB NB2)
  all_goals
    have c9 : w6.cell? ⟨p, 9, none⟩ = some cx := X6.it.f.s.box.1.cell 9
    have SP := Aside.mk (spend_cr X6.it.f.s ho K (by omega) hKl.it.2 X6.it.f.g.st.s)
    go_upto_region 6 with (first | (go_at_call 49; refine SP.it.mono ?_; rintro e w7 ⟨v7, own7, rfl, Y7⟩) | fail)
    have X7 := Aside.mk (X6.it.next Y7.it.1 Y7.it.2 (by omega) (by omega))
    clear SP c9 Y7
    have c5 : w7.cell? ⟨p, 5, none⟩ = some (.bool d.closing) := X7.it.f.s.box.1.cell 5
    have c8 : w7.cell? ⟨p, 8, none⟩ = some sx := X7.it.f.s.box.1.cell 8
    have LN := Aside.mk (st_len X7.it.f.s)
    rcases (Bool.eq_false_or_eq_true d.frL).symm with hL | hL
    · have hc : d.closing = false ∨ (d.closing = true ∧ ¬ (((d.staged.drop K).length : Nat) : Int) = 0) := by
        have hL' := hL
        unfold Dm.frL at hL'
        rw [← HK.it] at hL'
        rcases (Bool.eq_false_or_eq_true d.closing).symm with c | c
        · exact .inl c
        · refine .inr ⟨c, ?_⟩
          rw [c] at hL'
          simp at hL'
          rw [List.length_drop]
          omega
      have hD : Aside ({ d with staged := d.staged.drop K, credit := d.credit - K } = d.frD) := ⟨by
        unfold Dm.frD
        rw [if_pos RD.it, HK.it, hL]
        have := (off_no ho).2.2
        rw [← this]⟩
      have okd : Aside (Dm.Ok { d with staged := d.staged.drop K, credit := d.credit - K }) := ⟨by rw [hD.it]; exact Dm.frD_ok OK.it⟩
      have HL := Aside.mk hL
      have HUd : Aside (Dm.deaf { d with staged := d.staged.drop K, credit := d.credit - K } = false → u = d.unread.length) := HU
      rcases hc with hc | ⟨hc, hn⟩
      · rw [hc] at c5
        clear LN hL
        go_upto_region 9 with fail
        obtain ⟨b0, b1, b2, b3, b4, b5, z0, z1, z2, z3, z4, z5, f0, f1, f2, f3, f4, f5⟩ := Fs.facts X7
        obtain ⟨⟨t0, t1, t2, t3, t4, t5⟩, T⟩ := Fs.done X7 okd.it HUd.it
        have T := Aside.mk T
        obtain ⟨wE, hwE⟩ : ∃ wE, wE = ((((((w7.setCell ⟨q, 0, none⟩ (.int .u8 0)).setCell ⟨q, 1, none⟩ (.int .u8 0)).setCell ⟨q, 2, none⟩ (.int .u16 0)).setCell ⟨q, 3, none⟩ (.int .u32 d.id)).setCell ⟨q, 4, none⟩ (.int .u32 K)).setCell ⟨q, 5, none⟩ (.slice sq K K)) := ⟨_, rfl⟩
        rw [← hwE] at t0 t1 t2 t3 t4 t5 T
        go_wp2
        rw [← hwE]
        clear hwE
        refine bodyPost_ret (v := .tuple #[.agg #[.int .u8 0, .int .u8 0, .int .u16 0, .int .u32 d.id, .int .u32 K, .slice sq K K], .bool true]) (by simp [results, Tryd.results21, go_sem, t0, t1, t2, t3, t4, t5]) rfl ?_
        exact ⟨sq, K, (by rw [hF.it, HL.it, ← HK.it]; first | done | rfl), ⟨by rw [← HK.it, List.length_take, Nat.min_eq_left hKl.it.1]⟩, ⟨by rw [← hD.it, ← HK.it]; exact T.it⟩⟩
      · rw [hc] at c5
        obtain ⟨NL, hNL⟩ : ∃ NL, NL = (d.staged.drop K).length := ⟨_, rfl⟩
        have LN1 : Aside (Calls Tryd.prog 46 #[sx] w7 fun e w' => e = .returned (.int .i64 NL) ∧ w' = w7) := ⟨by rw [hNL]; exact LN.it⟩
        rw [← hNL] at hn
        clear hL LN hNL
        go_upto_region 9 with (first | (go_at_call 46; refine LN1.it.mono ?_; rintro e w' ⟨rfl, hw⟩; subst hw) | fail)
        obtain ⟨b0, b1, b2, b3, b4, b5, z0, z1, z2, z3, z4, z5, f0, f1, f2, f3, f4, f5⟩ := Fs.facts X7
        obtain ⟨⟨t0, t1, t2, t3, t4, t5⟩, T⟩ := Fs.done X7 okd.it HUd.it
        have T := Aside.mk T
        obtain ⟨wE, hwE⟩ : ∃ wE, wE = ((((((w'.setCell ⟨q, 0, none⟩ (.int .u8 0)).setCell ⟨q, 1, none⟩ (.int .u8 0)).setCell ⟨q, 2, none⟩ (.int .u16 0)).setCell ⟨q, 3, none⟩ (.int .u32 d.id)).setCell ⟨q, 4, none⟩ (.int .u32 K)).setCell ⟨q, 5, none⟩ (.slice sq K K)) := ⟨_, rfl⟩
        rw [← hwE] at t0 t1 t2 t3 t4 t5 T
        go_wp2
        rw [← hwE]
        clear hwE
        refine bodyPost_ret (v := .tuple #[.agg #[.int .u8 0, .int .u8 0, .int .u16 0, .int .u32 d.id, .int .u32 K, .slice sq K K], .bool true]) (by simp [results, Tryd.results21, go_sem, t0, t1, t2, t3, t4, t5]) rfl ?_
        exact ⟨sq, K, (by rw [hF.it, HL.it, ← HK.it]; first | done | rfl), ⟨by rw [← HK.it, List.length_take, Nat.min_eq_left hKl.it.1]⟩, ⟨by rw [← hD.it, ← HK.it]; exact T.it⟩⟩
    · have hc : d.closing = true ∧ (d.staged.drop K) = [] := by
        have hL' := hL
        unfold Dm.frL at hL'
        rw [← HK.it] at hL'
        simp at hL'
        exact ⟨hL'.1, List.drop_eq_nil_of_le hL'.2⟩
      have hD : Aside ({ d with staged := d.staged.drop K, credit := d.credit - K, last := true } = d.frD) := ⟨by
        unfold Dm.frD
        rw [if_pos RD.it, HK.it, hL]⟩
      have okd : Aside (Dm.Ok { d with staged := d.staged.drop K, credit := d.credit - K, last := true }) := ⟨by rw [hD.it]; exact Dm.frD_ok OK.it⟩
      have HL := Aside.mk hL
      have HUd : Aside (Dm.deaf { d with staged := d.staged.drop K, credit := d.credit - K, last := true } = false → u = d.unread.length) := HU
      rw [hc.1] at c5
      have LN0 : Aside (Calls Tryd.prog 46 #[sx] w7 fun e w' => e = .returned (.int .i64 0) ∧ w' = w7) := ⟨by have := LN.it; rw [show Dm.staged { d with staged := d.staged.drop K, credit := d.credit - K } = [] from hc.2] at this; exact this⟩
      have e2 : w7.cell? ⟨b, 2, none⟩ = some (.int .u16 0) := X7.it.bx.1.cell 2
      have g2 := X7.it.bx.1.frozen 2
      have X8 := Aside.mk (X7.it.flag r0)
      have HC := Aside.mk hc.2
      clear LN hL hc
      go_upto_region 8 with (first | (go_at_call 46; refine LN0.it.mono ?_; rintro e w' ⟨rfl, hw⟩; subst hw) | fail)
      obtain ⟨h1, h2, h3⟩ := off_no ho
      have MH := Aside.mk (meet_last X8.it.f.s X8.it.f.g.st h1 h3 HC.it)
      clear h1 h2 h3
      go_upto_region 9 with (first | (go_at_call 33; refine MH.it.mono ?_; rintro e w9 ⟨rfl, Y9⟩) | fail)
      have X9 := Aside.mk (X8.it.next Y9.it.1 Y9.it.2 (by omega) (by omega))
      clear MH X8 X7 Y9
      obtain ⟨b0, b1, b2, b3, b4, b5, z0, z1, z2, z3, z4, z5, f0, f1, f2, f3, f4, f5⟩ := Fs.facts X9
      obtain ⟨⟨t0, t1, t2, t3, t4, t5⟩, T⟩ := Fs.done X9 okd.it HUd.it
      have T := Aside.mk T
      obtain ⟨wE, hwE⟩ : ∃ wE, wE = ((((((w9.setCell ⟨q, 0, none⟩ (.int .u8 0)).setCell ⟨q, 1, none⟩ (.int .u8 0)).setCell ⟨q, 2, none⟩ (.int .u16 4)).setCell ⟨q, 3, none⟩ (.int .u32 d.id)).setCell ⟨q, 4, none⟩ (.int .u32 K)).setCell ⟨q, 5, none⟩ (.slice sq K K)) := ⟨_, rfl⟩
      rw [← hwE] at t0 t1 t2 t3 t4 t5 T
      go_wp2
      rw [← hwE]
      clear hwE
      refine bodyPost_ret (v := .tuple #[.agg #[.int .u8 0, .int .u8 0, .int .u16 4, .int .u32 d.id, .int .u32 K, .slice sq K K], .bool true]) (by simp [results, Tryd.results21, go_sem, t0, t1, t2, t3, t4, t5]) rfl ?_
      exact ⟨sq, K, (by rw [hF.it, HL.it, ← HK.it]; first | done | rfl), ⟨by rw [← HK.it, List.length_take, Nat.min_eq_left hKl.it.1]⟩, ⟨by rw [← hD.it, ← HK.it]; exact T.it⟩⟩
end
end Go.Proofs.YteghehhifebhcaaDoor
