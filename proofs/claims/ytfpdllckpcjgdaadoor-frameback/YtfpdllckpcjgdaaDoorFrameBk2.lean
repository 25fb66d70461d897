/-
  FrameBack: the law's world, and each call's contract in it.
-/
import Derived.Test.YtfpdllckpcjgdaaDoorFrameBack
import Derived.Test.YtfpdllckpcjgdaaDoorFrameWrites
import Derived.Test.YtfpdllckpcjgdaaDoorCodedZ
import Derived.Deep.MidRow
namespace Go.Proofs.YtfpdllckpcjgdaaDoor
open Go.RowKit

abbrev Okh (v t f s l : Int) : Prop := (0 ≤ v ∧ v ≤ 255) ∧ (0 ≤ t ∧ t ≤ 255) ∧ (0 ≤ f ∧ f ≤ 65535) ∧ (0 ≤ s ∧ s ≤ 4294967295) ∧ (0 ≤ l ∧ l ≤ 4294967295)
def hcells (v t f s l : Int) : List Value := [.int .u8 v, .int .u8 t, .int .u16 f, .int .u32 s, .int .u32 l]
section
variable {A : Nat → Addr} {w w' w0 w2 W : World} {p p2 p3 : Nat} {v t f s l v2 t2 f2 s2 l2 v3 t3 f3 s3 l3 : Int} {d vb : Value} {ns bs : List Int}
/-- behind the two boxes -/
structure Fg (A : Nat → Addr) (w0 : World) (p : Nat) (v t f s l : Int) (d : Value) (ns : List Int) (p2 : Nat) (v2 t2 f2 s2 l2 : Int) (vb : Value) (bs : List Int) (w2 : World) (w : World) : Prop where
  base : Fk A w0 p v t f s l d ns p2 v2 t2 f2 s2 l2 vb bs w2
  bB : Below w2.heap.size w2 w
/-- and with h's box -/
structure Fh (A : Nat → Addr) (w0 : World) (p : Nat) (v t f s l : Int) (d : Value) (ns : List Int) (p2 : Nat) (v2 t2 f2 s2 l2 : Int) (vb : Value) (bs : List Int) (w2 : World) (p3 : Nat) (v3 t3 f3 s3 l3 : Int) (w : World) : Prop where
  g : Fg A w0 p v t f s l d ns p2 v2 t2 f2 s2 l2 vb bs w2 w
  ge : w2.heap.size ≤ p3
  box : Cells w p3 25 (hcells v3 t3 f3 s3 l3)
theorem Fg.all (h : Fg A w0 p v t f s l d ns p2 v2 t2 f2 s2 l2 vb bs w2 w) : Fk A w0 p v t f s l d ns p2 v2 t2 f2 s2 l2 vb bs w := (Fk.later ⟨h.base⟩ h.bB).it
theorem Fg.later (h : Fg A w0 p v t f s l d ns p2 v2 t2 f2 s2 l2 vb bs w2 w) (hb : Below w.heap.size w w') : Fg A w0 p v t f s l d ns p2 v2 t2 f2 s2 l2 vb bs w2 w' := ⟨h.base, h.bB.trans (hb.mono h.bB.size)⟩
theorem Fh.later (h : Fh A w0 p v t f s l d ns p2 v2 t2 f2 s2 l2 vb bs w2 p3 v3 t3 f3 s3 l3 w) (hb : Below w.heap.size w w') : Fh A w0 p v t f s l d ns p2 v2 t2 f2 s2 l2 vb bs w2 p3 v3 t3 f3 s3 l3 w' := ⟨h.g.later hb, h.ge, h.box.later (Keeps.ofBelow (S := Nowhere) hb) (fun x => x)⟩
theorem Fh.cells (h : Aside (Fh A w0 p v t f s l d ns p2 v2 t2 f2 s2 l2 vb bs w2 p3 v3 t3 f3 s3 l3 w)) :
    w.cell? ⟨p, 0, none⟩ = some (.int .u8 v) ∧ w.cell? ⟨p, 1, none⟩ = some (.int .u8 t) ∧ w.cell? ⟨p, 2, none⟩ = some (.int .u16 f) ∧ w.cell? ⟨p, 3, none⟩ = some (.int .u32 s) ∧ w.cell? ⟨p, 4, none⟩ = some (.int .u32 l) ∧ w.cell? ⟨p, 5, none⟩ = some d ∧
    w.cell? ⟨p2, 0, none⟩ = some (.int .u8 v2) ∧ w.cell? ⟨p2, 1, none⟩ = some (.int .u8 t2) ∧ w.cell? ⟨p2, 2, none⟩ = some (.int .u16 f2) ∧ w.cell? ⟨p2, 3, none⟩ = some (.int .u32 s2) ∧ w.cell? ⟨p2, 4, none⟩ = some (.int .u32 l2) ∧
    w.cell? ⟨p3, 0, none⟩ = some (.int .u8 v3) ∧ w.cell? ⟨p3, 1, none⟩ = some (.int .u8 t3) ∧ w.cell? ⟨p3, 2, none⟩ = some (.int .u16 f3) ∧ w.cell? ⟨p3, 3, none⟩ = some (.int .u32 s3) ∧ w.cell? ⟨p3, 4, none⟩ = some (.int .u32 l3) := by
  have a := h.it.g.all
  refine ⟨a.fF.1.1, a.fF.1.2.1, a.fF.1.2.2.1, a.fF.1.2.2.2.1, a.fF.1.2.2.2.2, a.fF.2, a.oO.1, a.oO.2.1, a.oO.2.2.1, a.oO.2.2.2.1, a.oO.2.2.2.2, ?_⟩
  refine ⟨?_, ?_, ?_, ?_, ?_⟩ <;> rw [h.it.box.cell] <;> rfl
theorem fh_encode (z : Okh v t f s l) (W : World) (h : Aside (Fh A w0 p v t f s l d ns p2 v2 t2 f2 s2 l2 vb bs w2 p3 v3 t3 f3 s3 l3 W)) :
    Calls Tryd.prog 6 #[hdr v t f s l] W fun e w' => ∃ q c, e = .returned (.slice q 12 c) ∧ Aside (Rd w' (.slice q 12 c) (enc v t f s l)) ∧ Aside (Fh A w0 p v t f s l d ns p2 v2 t2 f2 s2 l2 vb bs w2 p3 v3 t3 f3 s3 l3 w') ∧ Aside (Below W.heap.size W w') :=
  (encode_any v t f s l W z.2.2.1.1 z.2.2.1.2 z.2.2.2.1.1 z.2.2.2.1.2 z.2.2.2.2.1 z.2.2.2.2.2).mono (by
    rintro e w' ⟨x, rfl, o, hb⟩
    obtain ⟨q, c, e⟩ := o.it.shape
    rw [enc_length] at e
    subst e
    exact ⟨q, c, rfl, ⟨o.it.rd⟩, ⟨h.it.later hb⟩, ⟨hb⟩⟩)
theorem fh_encode3 (z : Okh v3 t3 f3 s3 l3) (W : World) (h : Aside (Fh A w0 p v t f s l d ns p2 v2 t2 f2 s2 l2 vb bs w2 p3 v3 t3 f3 s3 l3 W)) :
    Calls Tryd.prog 6 #[hdr v3 t3 f3 s3 l3] W fun e w' => ∃ q c, e = .returned (.slice q 12 c) ∧ Aside (Rd w' (.slice q 12 c) (enc v3 t3 f3 s3 l3)) ∧ Aside (Fh A w0 p v t f s l d ns p2 v2 t2 f2 s2 l2 vb bs w2 p3 v3 t3 f3 s3 l3 w') ∧ Aside (Below W.heap.size W w') :=
  (encode_any v3 t3 f3 s3 l3 W z.2.2.1.1 z.2.2.1.2 z.2.2.2.1.1 z.2.2.2.1.2 z.2.2.2.2.1 z.2.2.2.2.2).mono (by
    rintro e w' ⟨x, rfl, o, hb⟩
    obtain ⟨q, c, e⟩ := o.it.shape
    rw [enc_length] at e
    subst e
    exact ⟨q, c, rfl, ⟨o.it.rd⟩, ⟨h.it.later hb⟩, ⟨hb⟩⟩)
theorem fh_text {v' t' f' s' l' : Int} (z : Okh v' t' f' s' l') (W : World) (h : Aside (Fh A w0 p v t f s l d ns p2 v2 t2 f2 s2 l2 vb bs w2 p3 v3 t3 f3 s3 l3 W)) :
    Calls Tryd.prog 7 #[hdr v' t' f' s' l'] W fun e w' => e = .returned (.string (str (txB v' t' f' s' l'))) ∧ Aside (Fh A w0 p v t f s l d ns p2 v2 t2 f2 s2 l2 vb bs w2 p3 v3 t3 f3 s3 l3 w') :=
  (text_any v' t' f' s' l' z.1.1 z.1.2 z.2.1.1 z.2.1.2 z.2.2.1.1 z.2.2.1.2 z.2.2.2.1.1 z.2.2.2.1.2 z.2.2.2.2.1 z.2.2.2.2.2 W h.it.g.all.wW).mono (by rintro e w' ⟨rfl, hb⟩; exact ⟨rfl, ⟨h.it.later hb⟩⟩)
theorem fh_size (z : Okh v t f s l) (W : World) (h : Aside (Fh A w0 p v t f s l d ns p2 v2 t2 f2 s2 l2 vb bs w2 p3 v3 t3 f3 s3 l3 W)) :
    Calls Tryd.prog 9 #[hdr v t f s l] W fun e w' => e = .returned (.int .i64 (szH t l)) ∧ Aside (Fh A w0 p v t f s l d ns p2 v2 t2 f2 s2 l2 vb bs w2 p3 v3 t3 f3 s3 l3 w') ∧ Aside (Below W.heap.size W w') :=
  (size_any v t f s l W z.2.2.2.2.1 z.2.2.2.2.2).mono (by rintro e w' ⟨rfl, rfl⟩; exact ⟨rfl, ⟨h.it.later (alloc_below _ _)⟩, ⟨alloc_below _ _⟩⟩)
theorem fh_bytes (x : Value) (hn : ns.length ≤ 140737488351300) (z : Okh v t f s l) (W : World) (h : Aside (Fh A w0 p v t f s l d ns p2 v2 t2 f2 s2 l2 vb bs w2 p3 v3 t3 f3 s3 l3 W)) (hr : Aside (Rd W x ns)) :
    Calls Tryd.prog 8 #[frm v t f s l x] W fun e w' => ∃ y ev, e = .returned (.tuple #[y, ev]) ∧ Aside (Coded A ev (bE t l ns.length)) ∧ Aside (Rd w' y (bO v t f s l ns)) ∧ Aside (Fh A w0 p v t f s l d ns p2 v2 t2 f2 s2 l2 vb bs w2 p3 v3 t3 f3 s3 l3 w') :=
  (bytes_any v t f s l x ns W h.it.g.all.sS hr.it hn z.2.2.1.1 z.2.2.1.2 z.2.2.2.1.1 z.2.2.2.1.2 z.2.2.2.2.1 z.2.2.2.2.2).mono (by rintro e w' ⟨y, ev, rfl, V, O, hb⟩; exact ⟨y, ev, rfl, V, ⟨O.it.rd⟩, ⟨h.it.later hb⟩⟩)
theorem fh_decode (x : Value) (ms : List Int) (hb : AreBytes ms) (W : World) (h : Aside (Fh A w0 p v t f s l d ns p2 v2 t2 f2 s2 l2 vb bs w2 p3 v3 t3 f3 s3 l3 W)) (hr : Aside (Rd W x ms)) :
    Calls Tryd.prog 5 #[x] W fun e w' => ∃ ev, e = .returned (.tuple #[dHdr ms, ev]) ∧ Aside (Coded A ev (dE ms)) ∧ Aside (Fh A w0 p v t f s l d ns p2 v2 t2 f2 s2 l2 vb bs w2 p3 v3 t3 f3 s3 l3 w') :=
  (decode_any x ms W h.it.g.all.sS hr.it hb).mono (by rintro e w' ⟨ev, rfl, V, hb'⟩; exact ⟨ev, rfl, V, ⟨h.it.later hb'⟩⟩)
theorem Fh.ownE (h : Aside (Fh A w0 p v t f s l d ns p2 v2 t2 f2 s2 l2 vb bs w2 p3 v3 t3 f3 s3 l3 w)) : OwnB w.heap.size (w.alloc (.cells #[] 5)) (.slice (some ⟨w.heap.size, 0, none⟩) 0 0) [] ∧ Rd (w.alloc (.cells #[] 5)) d ns :=
  ⟨own_new w [] 0 rfl (Nat.le_refl _) (Nat.zero_le _), h.it.g.all.rR.later (alloc_below _ _)⟩
theorem Fh.stepE {o : Obj} {x : Value} (o2 : Aside (OwnB w.heap.size w' x ([] ++ ns))) (k2 : Aside (Below w.heap.size (w.alloc o) w')) (h : Aside (Fh A w0 p v t f s l d ns p2 v2 t2 f2 s2 l2 vb bs w2 p3 v3 t3 f3 s3 l3 w)) :
    Aside (Fh A w0 p v t f s l d ns p2 v2 t2 f2 s2 l2 vb bs w2 p3 v3 t3 f3 s3 l3 w') ∧ Aside (Rd w' x ns) := ⟨⟨h.it.later ((alloc_below _ _).trans k2.it)⟩, ⟨o2.it.rd⟩⟩
theorem Fh.alloc {o : Obj} (h : Aside (Fh A w0 p v t f s l d ns p2 v2 t2 f2 s2 l2 vb bs w2 p3 v3 t3 f3 s3 l3 w)) : Aside (Fh A w0 p v t f s l d ns p2 v2 t2 f2 s2 l2 vb bs w2 p3 v3 t3 f3 s3 l3 (w.alloc o)) := ⟨h.it.later (alloc_below _ _)⟩
/-- h's box written over -/
theorem Fh.there (h : Fh A w0 p v t f s l d ns p2 v2 t2 f2 s2 l2 vb bs w2 p3 v3 t3 f3 s3 l3 w) : w.there p3 0 5 := by
  intro j hj
  rw [Nat.zero_add]
  refine ⟨?_, h.box.frozen j⟩
  rw [h.box.cell, List.getElem?_eq_getElem (by show j < 5; exact hj)]
  rfl
theorem Fh.store (h : Fh A w0 p v t f s l d ns p2 v2 t2 f2 s2 l2 vb bs w2 p3 v3 t3 f3 s3 l3 w) (v' t' f' s' l' : Int) : Fh A w0 p v t f s l d ns p2 v2 t2 f2 s2 l2 vb bs w2 p3 v' t' f' s' l' (w.setCells p3 0 (#[.int .u8 v', .int .u8 t', .int .u16 f', .int .u32 s', .int .u32 l'] : Array Value).toList) := by
  have b := ((((h.box.setCell 0 (.int .u8 v')).setCell 1 (.int .u8 t')).setCell 2 (.int .u16 f')).setCell 3 (.int .u32 s')).setCell 4 (.int .u32 l')
  have k : Keeps (fun b => b = p3) w (w.setCells p3 0 (#[.int .u8 v', .int .u8 t', .int .u16 f', .int .u32 s', .int .u32 l'] : Array Value).toList) :=
    ((((((Keeps.refl (fun b => b = p3) w).setCell ⟨p3, 0, none⟩ (.int .u8 v') (fun _ => rfl)).setCell ⟨p3, 1, none⟩ (.int .u8 t') (fun _ => rfl)).setCell ⟨p3, 2, none⟩ (.int .u16 f') (fun _ => rfl)).setCell ⟨p3, 3, none⟩ (.int .u32 s') (fun _ => rfl)).setCell ⟨p3, 4, none⟩ (.int .u32 l') (fun _ => rfl))
  exact ⟨⟨h.g.base, below_next h.g.bB k h.g.bB.size (fun b e _ => by subst e; exact h.ge)⟩, h.ge, b⟩
set_option maxRecDepth 100000 in
theorem hdr_neq (w : World) : (binOp .neq 25 (hdr v t f s l) (hdr v t f s l)).run Tryd.prog w = .ok (.bool false) w := by
  have h := hdr_eql (v := v) (t := t) (f := f) (s := s) (l := l) (v2 := v) (t2 := t) (f2 := f) (s2 := s) (l2 := l) w
  have hst : Tryd.prog.stoodInHeld 25 = false := by kernel_rfl
  have hfo : Tryd.prog.underlying 25 = some (.struct (Tryd.prog.fieldsOf 25)) := by kernel_rfl
  have h := run_equalIn_agg (P := Tryd.prog) (w := w) 9999 25 #[.int .u8 v, .int .u8 t, .int .u16 f, .int .u32 s, .int .u32 l] #[.int .u8 v, .int .u8 t, .int .u16 f, .int .u32 s, .int .u32 l] hfo hst
  rw [run_neq_struct, h]
  clear h hst hfo
  simp only [Program.fieldsOf, Tryd.underlying25]
  simp [Op.eqFields, go_sem]
theorem dec_enc_hdr (v t f s l : Int) : dHdr (enc v t f s l) = hdr v t f s l := by
  obtain ⟨e1, e2, e3, e4, e5⟩ := dec_enc v t f s l
  unfold dHdr
  rw [e1, e2, e3, e4, e5]
end
theorem list12 {α : Type} {l : List α} (h : l.length = 12) : ∃ a0 a1 a2 a3 a4 a5 a6 a7 a8 a9 a10 a11, l = [a0, a1, a2, a3, a4, a5, a6, a7, a8, a9, a10, a11] := by
  match l, h with
  | [a0, a1, a2, a3, a4, a5, a6, a7, a8, a9, a10, a11], _ => exact ⟨a0, a1, a2, a3, a4, a5, a6, a7, a8, a9, a10, a11, rfl⟩
theorem enc_dec (h : List Int) (hh : h.length = 12) (hb : AreBytes h) : enc (dV h) (dT h) (dF h) (dS h) (dL h) = h := by
  rw [dF_eq h (by omega), dS_eq h (by omega), dL_eq h (by omega)]
  unfold dV dT
  rw [if_neg (by omega), if_neg (by omega)]
  obtain ⟨a0, a1, a2, a3, a4, a5, a6, a7, a8, a9, a10, a11, rfl⟩ := list12 hh
  have b0 := hb a2 (by simp); have b1 := hb a3 (by simp); have b2 := hb a4 (by simp); have b3 := hb a5 (by simp); have b4 := hb a6 (by simp)
  have b5 := hb a7 (by simp); have b6 := hb a8 (by simp); have b7 := hb a9 (by simp); have b8 := hb a10 (by simp); have b9 := hb a11 (by simp)
  simp [enc, be2, be4]
  omega
theorem rd_conv {W : World} {x : Value} {ms : List Int} (h : Rd W x ms) : (convert 26 9 x).run Tryd.prog W = .ok (.string (strOf ms)) W := run_bytesStr W 26 9 5 x ms Tryd.underlying26 Tryd.underlying5 Tryd.underlying9 h.holds
theorem rd_take {W : World} {q : Option Addr} {k c : Nat} {ms : List Int} (h : Rd W (.slice q k c) ms) (j : Nat) (hj : j ≤ ms.length) : Rd W (.slice q j c) (ms.take j) := by
  obtain ⟨⟨a, c', e, hlc, hc⟩, hn⟩ := h
  injection e with e1 e2 e3
  subst e1 e3
  rw [bv_length] at hlc
  refine ⟨⟨q, c, by simp [bv, Nat.min_eq_left hj], by rw [bv_length, List.length_take]; omega, fun i u hu => ?_⟩, fun _ _ e => ?_⟩
  · refine hc i u ?_
    rw [bv, List.map_take, List.getElem?_take] at hu
    split at hu
    · exact hu
    · cases hu
  · injection e with e1 e2 e3
    subst e1 e3
    exact hn _ _ rfl
theorem take_getD (h : List Int) (n i : Nat) (hi : i < n) : (h.take n).getD i 0 = h.getD i 0 := by simp [List.getD, hi]
/-- what twelve bytes that are read say is written so again -/
theorem enc_dec12 (h : List Int) (hh : 12 ≤ h.length) (hb : AreBytes h) : enc (dV h) (dT h) (dF h) (dS h) (dL h) = h.take 12 := by
  have hl : 12 ≤ (h.take 12).length := by rw [List.length_take]; omega
  have e1 : dV h = dV (h.take 12) := by unfold dV; rw [if_neg (by omega), if_neg (by omega), take_getD h 12 0 (by decide)]
  have e2 : dT h = dT (h.take 12) := by unfold dT; rw [if_neg (by omega), if_neg (by omega), take_getD h 12 1 (by decide)]
  have e3 : dF h = dF (h.take 12) := by rw [dF_eq h hh, dF_eq _ hl]; simp only [take_getD h 12 2 (by decide), take_getD h 12 3 (by decide)]
  have e4 : dS h = dS (h.take 12) := by rw [dS_eq h hh, dS_eq _ hl]; simp only [take_getD h 12 4 (by decide), take_getD h 12 5 (by decide), take_getD h 12 6 (by decide), take_getD h 12 7 (by decide)]
  have e5 : dL h = dL (h.take 12) := by rw [dL_eq h hh, dL_eq _ hl]; simp only [take_getD h 12 8 (by decide), take_getD h 12 9 (by decide), take_getD h 12 10 (by decide), take_getD h 12 11 (by decide)]
  rw [e1, e2, e3, e4, e5]
  exact enc_dec _ (by rw [List.length_take]; omega) (fun n hn => hb n (List.mem_of_mem_take hn))
theorem okh_dec (h : List Int) (hb : AreBytes h) : Okh (dV h) (dT h) (dF h) (dS h) (dL h) := by
  refine ⟨?_, ?_, dF_bounds hb, dS_bounds hb, dL_bounds hb⟩
  · unfold dV
    split
    · decide
    · exact getD_byte hb 0
  · unfold dT
    split
    · decide
    · exact getD_byte hb 1
end Go.Proofs.YtfpdllckpcjgdaaDoor
