/-
  FrameBack, walked.
-/
import Derived.Test.YtfpdllckpcjgdaaDoorFrameBk2
namespace Go.Proofs.YtfpdllckpcjgdaaDoor
open Go.RowKit


section
variable {A : Nat → Addr} {w w1 wb W : World} {n m c c2 p3 : Nat} {a a2 : Option Addr} {v t f s l v2 t2 f2 s2 l2 v3 t3 f3 s3 l3 : Int} {ns bs : List Int} {Z : ByteArray}
theorem fh_all (CB : Aside (∀ W, Aside (Fh A w w.heap.size v t f s l (.slice a n c) ns (w.heap.size + 1) v2 t2 f2 s2 l2 (.slice a2 m c2) bs wb p3 v3 t3 f3 s3 l3 W) → (convert 26 9 (.slice a2 12 c2)).run Tryd.prog W = .ok (.string Z) W)) (h : Aside (Fh A w w.heap.size v t f s l (.slice a n c) ns (w.heap.size + 1) v2 t2 f2 s2 l2 (.slice a2 m c2) bs wb p3 v3 t3 f3 s3 l3 W)) : (fun w' => w'.cell? ⟨w.heap.size, 0, none⟩ = some (.int .u8 v) ∧ w'.cell? ⟨w.heap.size, 1, none⟩ = some (.int .u8 t) ∧ w'.cell? ⟨w.heap.size, 2, none⟩ = some (.int .u16 f) ∧ w'.cell? ⟨w.heap.size, 3, none⟩ = some (.int .u32 s) ∧ w'.cell? ⟨w.heap.size, 4, none⟩ = some (.int .u32 l) ∧ w'.cell? ⟨w.heap.size, 5, none⟩ = some (.slice a n c) ∧ w'.cell? ⟨w.heap.size + 1, 0, none⟩ = some (.int .u8 v2) ∧ w'.cell? ⟨w.heap.size + 1, 1, none⟩ = some (.int .u8 t2) ∧ w'.cell? ⟨w.heap.size + 1, 2, none⟩ = some (.int .u16 f2) ∧ w'.cell? ⟨w.heap.size + 1, 3, none⟩ = some (.int .u32 s2) ∧ w'.cell? ⟨w.heap.size + 1, 4, none⟩ = some (.int .u32 l2) ∧ w'.cell? ⟨p3, 0, none⟩ = some (.int .u8 v3) ∧ w'.cell? ⟨p3, 1, none⟩ = some (.int .u8 t3) ∧ w'.cell? ⟨p3, 2, none⟩ = some (.int .u16 f3) ∧ w'.cell? ⟨p3, 3, none⟩ = some (.int .u32 s3) ∧ w'.cell? ⟨p3, 4, none⟩ = some (.int .u32 l3) ∧ (convert 26 9 (.slice a2 12 c2)).run Tryd.prog w' = .ok (.string Z) w') W := by
  obtain ⟨a0, a1, a2, a3, a4, a5, a6, a7, a8, a9, a10, a11, a12, a13, a14, a15⟩ := Fh.cells h
  exact ⟨a0, a1, a2, a3, a4, a5, a6, a7, a8, a9, a10, a11, a12, a13, a14, a15, CB.it W h⟩
theorem fh_all14 {D T : ByteArray} {yq : Option Addr} {yl yc : Nat} {w13 : World} (CB : Aside (∀ W, Aside (Fh A w w.heap.size v t f s l (.slice a n c) ns (w.heap.size + 1) v2 t2 f2 s2 l2 (.slice a2 m c2) bs wb p3 v3 t3 f3 s3 l3 W) → Aside (Below w13.heap.size w13 W) → (convert 26 9 (.slice a n c)).run Tryd.prog W = .ok (.string D) W ∧ (convert 26 9 (.slice yq yl yc)).run Tryd.prog W = .ok (.string T) W)) (h : Aside (Fh A w w.heap.size v t f s l (.slice a n c) ns (w.heap.size + 1) v2 t2 f2 s2 l2 (.slice a2 m c2) bs wb p3 v3 t3 f3 s3 l3 W)) (hb : Aside (Below w13.heap.size w13 W)) : (fun w' => w'.cell? ⟨w.heap.size, 0, none⟩ = some (.int .u8 v) ∧ w'.cell? ⟨w.heap.size, 1, none⟩ = some (.int .u8 t) ∧ w'.cell? ⟨w.heap.size, 2, none⟩ = some (.int .u16 f) ∧ w'.cell? ⟨w.heap.size, 3, none⟩ = some (.int .u32 s) ∧ w'.cell? ⟨w.heap.size, 4, none⟩ = some (.int .u32 l) ∧ w'.cell? ⟨w.heap.size, 5, none⟩ = some (.slice a n c) ∧ w'.cell? ⟨w.heap.size + 1, 0, none⟩ = some (.int .u8 v2) ∧ w'.cell? ⟨w.heap.size + 1, 1, none⟩ = some (.int .u8 t2) ∧ w'.cell? ⟨w.heap.size + 1, 2, none⟩ = some (.int .u16 f2) ∧ w'.cell? ⟨w.heap.size + 1, 3, none⟩ = some (.int .u32 s2) ∧ w'.cell? ⟨w.heap.size + 1, 4, none⟩ = some (.int .u32 l2) ∧ w'.cell? ⟨p3, 0, none⟩ = some (.int .u8 v3) ∧ w'.cell? ⟨p3, 1, none⟩ = some (.int .u8 t3) ∧ w'.cell? ⟨p3, 2, none⟩ = some (.int .u16 f3) ∧ w'.cell? ⟨p3, 3, none⟩ = some (.int .u32 s3) ∧ w'.cell? ⟨p3, 4, none⟩ = some (.int .u32 l3) ∧ (convert 26 9 (.slice a n c)).run Tryd.prog w' = .ok (.string D) w' ∧ (convert 26 9 (.slice yq yl yc)).run Tryd.prog w' = .ok (.string T) w') W := by
  obtain ⟨a0, a1, a2, a3, a4, a5, a6, a7, a8, a9, a10, a11, a12, a13, a14, a15⟩ := Fh.cells h
  exact ⟨a0, a1, a2, a3, a4, a5, a6, a7, a8, a9, a10, a11, a12, a13, a14, a15, (CB.it W h hb).1, (CB.it W h hb).2⟩
end
theorem strOf_append (x y : List Int) : strOf x ++ strOf y = strOf (x ++ y) := by
  apply ByteArray.ext
  simp [strOf]
theorem strOf_size (x : List Int) : (strOf x).size = x.length := by simp [strOf, ByteArray.size]
set_option maxRecDepth 20000 in
set_option maxHeartbeats 4000000 in
theorem frameBack_law {A : Nat → Addr} (v t f s l : Int) (d : Value) (ns : List Int) (v2 t2 f2 s2 l2 : Int) (vb : Value) (bs : List Int) (w : World) (hs : At4 A w w) (hw : Words w) (hr : Rd w d ns) (hbt : AreBytes ns) (hn : ns.length ≤ 140737488351232)
    (hz : Okh v t f s l) (hz2 : Okh v2 t2 f2 s2 l2) (hr2 : Rd w vb bs) (hbt2 : AreBytes bs) (hn2 : bs.length ≤ 140737488351232) :
    Calls Tryd.prog 3 #[frm v t f s l d, hdr v2 t2 f2 s2 l2, vb] w fun e w' => e = .returned (.bool true) ∧ Below w.heap.size w w' := by
  obtain ⟨a, c, hd⟩ := hr.shape
  subst hd
  obtain ⟨a2, c2, hd⟩ := hr2.shape
  subst hd
  obtain ⟨n, hnn⟩ : ∃ n, Aside (n = ns.length) := ⟨_, ⟨rfl⟩⟩
  obtain ⟨m, hmm⟩ : ∃ m, Aside (m = bs.length) := ⟨_, ⟨rfl⟩⟩
  rw [← hnn.it] at hr hn ⊢
  rw [← hmm.it] at hr2 hn2 ⊢
  obtain ⟨wb, hwb⟩ : ∃ wb, wb = (w.alloc (fbox v t f s l (.slice a n c))).alloc (hbox v2 t2 f2 s2 l2) := ⟨_, rfl⟩
  obtain ⟨p2, hp2⟩ : ∃ p2, Aside (p2 = w.heap.size + 1) := ⟨_, ⟨rfl⟩⟩
  have B0 : Below w.heap.size w wb := by rw [hwb]; exact (alloc_below _ _).alloc (alloc_below w _).size _
  have G0 : Aside (Fk A w w.heap.size v t f s l (.slice a n c) ns (w.heap.size + 1) v2 t2 f2 s2 l2 (.slice a2 m c2) bs wb) := by
    refine ⟨⟨hs.s.later B0, B0, ?_, ?_, hr.later B0, hr2.later B0, hw.later B0⟩⟩
    · rw [hwb]; exact (FB.new w v t f s l _).later (alloc_below _ _)
    · rw [hwb]
      have := HB.new (w.alloc (fbox v t f s l (.slice a n c))) v2 t2 f2 s2 l2
      rwa [show (w.alloc (fbox v t f s l (.slice a n c))).heap.size = w.heap.size + 1 by simp] at this
  have AW := Aside.mk (awake4 wb (hs.s.later B0) (hs.l.later B0))
  have BT := Aside.mk hbt
  have BT2 := Aside.mk hbt2
  have HN := Aside.mk hn
  have HN2 := Aside.mk hn2
  have HZ := Aside.mk hz
  have HZ2 := Aside.mk hz2
  have HB0 := Aside.mk B0
  clear hs hw hr hbt hn hz hz2 hr2 hbt2 hn2 B0
  go_enter Tryd.func3, Tryd.ntmps3
  go_upto_region 1 with fail
  rw [← hwb]
  clear hwb
  go_upto_region 3 with (first | (go_at_call 4; refine AW.it.mono ?_; rintro e w1 ⟨rfl, K1⟩; have K1 := Aside.mk K1) | fail)
  have G1 := Aside.mk (Fk.later G0 K1.it)
  have EN := Aside.mk (encode_any v t f s l w1 HZ.it.2.2.1.1 HZ.it.2.2.1.2 HZ.it.2.2.2.1.1 HZ.it.2.2.2.1.2 HZ.it.2.2.2.2.1 HZ.it.2.2.2.2.2)
  have EB := Aside.mk (enc_bytes4 HZ.it.1 HZ.it.2.1 HZ.it.2.2.1 HZ.it.2.2.2.1 HZ.it.2.2.2.2)
  have y0 := G1.it.it.fF.1.1
  have y1 := G1.it.it.fF.1.2.1
  have y2 := G1.it.it.fF.1.2.2.1
  have y3 := G1.it.it.fF.1.2.2.2.1
  have y4 := G1.it.it.fF.1.2.2.2.2
  go_upto_region 4 with (first
    | (go_at_call 6; refine EN.it.mono ?_; rintro e w3 ⟨x3, rfl, O3, K3⟩; have K3 := Aside.mk K3; have DE := Aside.mk (decode_any (A := A) x3 _ w3 (G1.it.it.sS.later K3.it) O3.it.rd EB.it); rw [dec_enc_hdr] at DE)
    | (go_at_call 5; refine DE.it.mono ?_; rintro e w4 ⟨ev, rfl, V4, K4⟩; have K4 := Aside.mk K4; have e0 := V4.it.zero; subst e0)
    | fail)
  have P5 : Aside (Fh A w w.heap.size v t f s l (.slice a n c) ns (w.heap.size + 1) v2 t2 f2 s2 l2 (.slice a2 m c2) bs wb w4.heap.size v t f s l (w4.alloc (hbox v t f s l))) :=
    ⟨⟨⟨G0.it, (K1.it.trans (K3.it.mono K1.it.size)).trans ((K4.it.mono (Nat.le_trans K1.it.size K3.it.size)).trans ((alloc_below w4 _).mono (Nat.le_trans (Nat.le_trans K1.it.size K3.it.size) K4.it.size)))⟩, Nat.le_trans (Nat.le_trans K1.it.size K3.it.size) K4.it.size, Cells.new w4 25 (hcells v t f s l)⟩⟩
  clear y0 y1 y2 y3 y4 EN V4 K3 K4 O3 DE G1 K1 AW
  generalize w4.alloc (hbox v t f s l) = w5 at P5 ⊢
  generalize w4.heap.size = p3 at P5 ⊢
  clear G0
  -- h, the header that came back, beside the other one
  have TX := Aside.mk (fun W h => fh_text (A := A) (w0 := w) (p := w.heap.size) (v := v) (t := t) (f := f) (s := s) (l := l) (d := .slice a n c) (ns := ns) (p2 := w.heap.size + 1) (v2 := v2) (t2 := t2) (f2 := f2) (s2 := s2) (l2 := l2) (vb := .slice a2 m c2) (bs := bs) (w2 := wb) (p3 := p3) (v3 := v) (t3 := t) (f3 := f) (s3 := s) (l3 := l) HZ.it W h)
  have TY := Aside.mk (fun W h => fh_text (A := A) (w0 := w) (p := w.heap.size) (v := v) (t := t) (f := f) (s := s) (l := l) (d := .slice a n c) (ns := ns) (p2 := w.heap.size + 1) (v2 := v2) (t2 := t2) (f2 := f2) (s2 := s2) (l2 := l2) (vb := .slice a2 m c2) (bs := bs) (w2 := wb) (p3 := p3) (v3 := v) (t3 := t) (f3 := f) (s3 := s) (l3 := l) HZ2.it W h)
  have NE := fun W => hdr_neq (v := v) (t := t) (f := f) (s := s) (l := l) W
  have EQ := fun W => hdr_eql (v := v) (t := t) (f := f) (s := s) (l := l) (v2 := v2) (t2 := t2) (f2 := f2) (s2 := s2) (l2 := l2) W
  have XY : ((str (txB v t f s l)).toList == (str (txB v2 t2 f2 s2 l2)).toList) = decide (v = v2 ∧ t = t2 ∧ f = f2 ∧ s = s2 ∧ l = l2) := by
    by_cases e : v = v2 ∧ t = t2 ∧ f = f2 ∧ s = s2 ∧ l = l2
    · obtain ⟨rfl, rfl, rfl, rfl, rfl⟩ := e
      simp
    · rw [decide_eq_false e, beq_eq_false_iff_ne]
      intro h
      refine e (txB_inj ?_ HZ.it.1.1 HZ.it.2.1.1 HZ.it.2.2.1.1 HZ.it.2.2.1.2 HZ.it.2.2.2.1.1 HZ.it.2.2.2.2.1 HZ2.it.1.1 HZ2.it.2.1.1 HZ2.it.2.2.1.1 HZ2.it.2.2.1.2 HZ2.it.2.2.2.1.1 HZ2.it.2.2.2.2.1)
      rw [ByteArray.toList_eq, ByteArray.toList_eq] at h
      simpa [str] using h
  generalize decide (v = v2 ∧ t = t2 ∧ f = f2 ∧ s = s2 ∧ l = l2) = b at EQ XY
  generalize str (txB v t f s l) = X at TX XY
  generalize str (txB v2 t2 f2 s2 l2) = Y at TY XY
  have P5d : Aside (Fh A w w.heap.size v t f s l (.slice a n c) ns (w.heap.size + 1) v2 t2 f2 s2 l2 (.slice a2 m c2) bs wb p3 v t f s l w5.drew) := ⟨P5.it.later (Below.refl _ _).drew⟩
  go_region_held_law (fun w' => w'.cell? ⟨w.heap.size, 0, none⟩ = some (.int .u8 v) ∧ w'.cell? ⟨w.heap.size, 1, none⟩ = some (.int .u8 t) ∧ w'.cell? ⟨w.heap.size, 2, none⟩ = some (.int .u16 f) ∧ w'.cell? ⟨w.heap.size, 3, none⟩ = some (.int .u32 s) ∧ w'.cell? ⟨w.heap.size, 4, none⟩ = some (.int .u32 l) ∧ w'.cell? ⟨w.heap.size, 5, none⟩ = some (.slice a n c) ∧ w'.cell? ⟨w.heap.size + 1, 0, none⟩ = some (.int .u8 v2) ∧ w'.cell? ⟨w.heap.size + 1, 1, none⟩ = some (.int .u8 t2) ∧ w'.cell? ⟨w.heap.size + 1, 2, none⟩ = some (.int .u16 f2) ∧ w'.cell? ⟨w.heap.size + 1, 3, none⟩ = some (.int .u32 s2) ∧ w'.cell? ⟨w.heap.size + 1, 4, none⟩ = some (.int .u32 l2) ∧ w'.cell? ⟨p3, 0, none⟩ = some (.int .u8 v) ∧ w'.cell? ⟨p3, 1, none⟩ = some (.int .u8 t) ∧ w'.cell? ⟨p3, 2, none⟩ = some (.int .u16 f) ∧ w'.cell? ⟨p3, 3, none⟩ = some (.int .u32 s) ∧ w'.cell? ⟨p3, 4, none⟩ = some (.int .u32 l))
    (exact Fh.cells (by assumption)) (first
    | (go_at_call 7; with_reducible refine (TY.it _ P6).mono ?_; rintro e w7 ⟨rfl, P7⟩)
    | (go_at_call 7; with_reducible refine (TX.it _ (by with_reducible assumption)).mono ?_; rintro e w6 ⟨rfl, P6⟩))
  clear TX TY NE EQ XY P5 P5d P6
  go_upto_region 6 with fail
  -- b read, and written again
  have P7a : Aside (Fh A w w.heap.size v t f s l (.slice a n c) ns (w.heap.size + 1) v2 t2 f2 s2 l2 (.slice a2 m c2) bs wb p3 v t f s l (w7.alloc (.cells #[] 5))) := ⟨P7.it.later (alloc_below _ _)⟩
  have OA : Aside (OwnB w7.heap.size (w7.alloc (.cells #[] 5)) (.slice (some ⟨w7.heap.size, 0, none⟩) 0 0) []) := ⟨own_new w7 [] 0 rfl (Nat.le_refl _) (Nat.zero_le _)⟩
  have DC := Aside.mk (fun x W h hr => fh_decode (A := A) (w0 := w) (p := w.heap.size) (v := v) (t := t) (f := f) (s := s) (l := l) (d := .slice a n c) (ns := ns) (p2 := w.heap.size + 1) (v2 := v2) (t2 := t2) (f2 := f2) (s2 := s2) (l2 := l2) (vb := .slice a2 m c2) (bs := bs) (w2 := wb) (p3 := p3) (v3 := v) (t3 := t) (f3 := f) (s3 := s) (l3 := l) x bs BT2.it W h hr)
  have OK := Aside.mk (okh_dec bs BT2.it)
  have E12 := Aside.mk (fun h => enc_dec12 bs h BT2.it)
  have hE : Aside (dE bs = if m < 12 then 3 else 0) := ⟨by rw [hmm.it]; rfl⟩
  rw [hE.it] at DC
  unfold dHdr at DC
  clear hE
  have bb := Aside.mk (show ([] : List Int).length + bs.length ≤ 140737488355328 by have := HN2.it; rw [hmm.it] at this; show 0 + bs.length ≤ _; omega)
  have sz := Aside.mk (alloc_below w7 (.cells #[] 5)).size
  generalize dV bs = v3 at DC OK E12
  generalize dT bs = t3 at DC OK E12
  generalize dF bs = f3 at DC OK E12
  generalize dS bs = s3 at DC OK E12
  generalize dL bs = l3 at DC OK E12
  have HI : Aside ((Tryd.prog.info? 25).map (·.size) = some (#[.int .u8 v3, .int .u8 t3, .int .u16 f3, .int .u32 s3, .int .u32 l3] : Array Value).size) := ⟨by kernel_rfl⟩
  have ON : Aside ((#[.int .u8 v3, .int .u8 t3, .int .u16 f3, .int .u32 s3, .int .u32 l3] : Array Value).all (·.oneCell') = true) := ⟨by simp [Value.oneCell']⟩
  go_upto_region 7 with (first
    | (refine wpList_appendB rfl _ _ rfl w7.heap.size _ _ [] bs OA.it P7a.it.g.all.rB bb.it sz.it rfl rfl ?_; intro x8 w8 O8 K8; have P8 : Aside (Fh A w w.heap.size v t f s l (.slice a n c) ns (w.heap.size + 1) v2 t2 f2 s2 l2 (.slice a2 m c2) bs wb p3 v t f s l w8) := ⟨P7.it.later ((alloc_below _ _).trans K8.it)⟩; have R8 : Aside (Rd w8 x8 bs) := ⟨O8.it.rd⟩)
    | (go_at_call 5; with_reducible refine (DC.it x8 w8 P8 R8).mono ?_; rintro e w9 ⟨ev, rfl, V9, P9⟩)
    | (refine wpList_store_mid rfl 25 _ _ rfl p3 0 #[.int .u8 v3, .int .u8 t3, .int .u16 f3, .int .u32 s3, .int .u32 l3] rfl rfl P9.it.there HI.it ON.it ?_; have P10 := Aside.mk (P9.it.store v3 t3 f3 s3 l3); generalize w9.setCells p3 0 (#[.int .u8 v3, .int .u8 t3, .int .u16 f3, .int .u32 s3, .int .u32 l3] : Array Value).toList = w10 at P10 ⊢)
    | fail)
  clear DC OA bb sz HI ON P7 P7a P8 R8 O8 K8 P9
  by_cases hm : m < 12
  case' pos =>
    have V := V9.it
    rw [if_pos hm] at V
    obtain ⟨ea, e⟩ := Coded.pos V (by decide)
    subst e
    have h12 : ¬ (12 : Int) ≤ m := by omega
    clear V V9 E12
    go_upto_region 9 with fail
    go_quiet (fail)
    clear h12
    have P11 : Aside (Fh A w w.heap.size v t f s l (.slice a n c) ns (w.heap.size + 1) v2 t2 f2 s2 l2 (.slice a2 m c2) bs wb p3 v3 t3 f3 s3 l3 (w10.drewN nq)) := ⟨P10.it.later ((Keeps.refl Nowhere w10).drewN nq).bel⟩
    generalize w10.drewN nq = w11 at P11 ⊢
    clear P10
  case' neg =>
    have V := V9.it
    rw [if_neg hm] at V
    have e := Coded.zero V
    subst e
    have h12 : (12 : Int) ≤ m := by omega
    clear V V9
    go_upto_region 9 with fail
    have P10d : Aside (Fh A w w.heap.size v t f s l (.slice a n c) ns (w.heap.size + 1) v2 t2 f2 s2 l2 (.slice a2 m c2) bs wb p3 v3 t3 f3 s3 l3 w10.drew) := ⟨P10.it.later ((Keeps.refl Nowhere w10).drew).bel⟩
    have EN := Aside.mk (fun W h => fh_encode3 (A := A) (w0 := w) (p := w.heap.size) (v := v) (t := t) (f := f) (s := s) (l := l) (d := .slice a n c) (ns := ns) (p2 := w.heap.size + 1) (v2 := v2) (t2 := t2) (f2 := f2) (s2 := s2) (l2 := l2) (vb := .slice a2 m c2) (bs := bs) (w2 := wb) (p3 := p3) (v3 := v3) (t3 := t3) (f3 := f3) (s3 := s3) (l3 := l3) OK.it W h)
    rw [E12.it (by rw [← hmm.it]; omega)] at EN
    obtain ⟨Z, hZ⟩ : ∃ Z, Aside (strOf (bs.take 12) = Z) := ⟨_, ⟨rfl⟩⟩
    have CB : Aside (∀ W, Aside (Fh A w w.heap.size v t f s l (.slice a n c) ns (w.heap.size + 1) v2 t2 f2 s2 l2 (.slice a2 m c2) bs wb p3 v3 t3 f3 s3 l3 W) → (convert 26 9 (.slice a2 12 c2)).run Tryd.prog W = .ok (.string Z) W) := ⟨fun W h => by
      have := rd_conv (rd_take h.it.g.all.rB 12 (by rw [← hmm.it]; omega))
      rwa [hZ.it] at this⟩
    have m12 : (12 : Int) ≤ c2 := by
      obtain ⟨_, c', e, h1, _⟩ := P10.it.g.all.rB.1
      injection e with _ _ e
      subst e
      rw [bv_length, ← hmm.it] at h1
      omega
    go_region_held_law (fun w' => w'.cell? ⟨w.heap.size, 0, none⟩ = some (.int .u8 v) ∧ w'.cell? ⟨w.heap.size, 1, none⟩ = some (.int .u8 t) ∧ w'.cell? ⟨w.heap.size, 2, none⟩ = some (.int .u16 f) ∧ w'.cell? ⟨w.heap.size, 3, none⟩ = some (.int .u32 s) ∧ w'.cell? ⟨w.heap.size, 4, none⟩ = some (.int .u32 l) ∧ w'.cell? ⟨w.heap.size, 5, none⟩ = some (.slice a n c) ∧ w'.cell? ⟨w.heap.size + 1, 0, none⟩ = some (.int .u8 v2) ∧ w'.cell? ⟨w.heap.size + 1, 1, none⟩ = some (.int .u8 t2) ∧ w'.cell? ⟨w.heap.size + 1, 2, none⟩ = some (.int .u16 f2) ∧ w'.cell? ⟨w.heap.size + 1, 3, none⟩ = some (.int .u32 s2) ∧ w'.cell? ⟨w.heap.size + 1, 4, none⟩ = some (.int .u32 l2) ∧ w'.cell? ⟨p3, 0, none⟩ = some (.int .u8 v3) ∧ w'.cell? ⟨p3, 1, none⟩ = some (.int .u8 t3) ∧ w'.cell? ⟨p3, 2, none⟩ = some (.int .u16 f3) ∧ w'.cell? ⟨p3, 3, none⟩ = some (.int .u32 s3) ∧ w'.cell? ⟨p3, 4, none⟩ = some (.int .u32 l3) ∧ (convert 26 9 (.slice a2 12 c2)).run Tryd.prog w' = .ok (.string Z) w')
      (exact fh_all CB (by assumption)) (first
      | (go_at_call 6; with_reducible refine (EN.it _ (by with_reducible assumption)).mono ?_; rintro e w11 ⟨q11, c11, rfl, R11, P11, K11⟩; have CV := rd_conv R11.it; rw [hZ.it] at CV))
  all_goals
    go_upto_region 11 with fail
    have P11d : Aside (Fh A w w.heap.size v t f s l (.slice a n c) ns (w.heap.size + 1) v2 t2 f2 s2 l2 (.slice a2 m c2) bs wb p3 v3 t3 f3 s3 l3 w11.drew) := ⟨P11.it.later ((Keeps.refl Nowhere w11).drew).bel⟩
    have BY := Aside.mk (fun x W h hr => fh_bytes (A := A) (w0 := w) (p := w.heap.size) (v := v) (t := t) (f := f) (s := s) (l := l) (d := .slice a n c) (ns := ns) (p2 := w.heap.size + 1) (v2 := v2) (t2 := t2) (f2 := f2) (s2 := s2) (l2 := l2) (vb := .slice a2 m c2) (bs := bs) (w2 := wb) (p3 := p3) (v3 := v3) (t3 := t3) (f3 := f3) (s3 := s3) (l3 := l3) x (by have := HN.it; rw [hnn.it] at this; omega) HZ.it W h hr)
    rw [← hnn.it] at BY
    have nb := Aside.mk (show ([] : List Int).length + ns.length ≤ 140737488355328 by have := HN.it; rw [hnn.it] at this; show 0 + ns.length ≤ _; omega)
    go_region_held_law (fun w' => w'.cell? ⟨w.heap.size, 0, none⟩ = some (.int .u8 v) ∧ w'.cell? ⟨w.heap.size, 1, none⟩ = some (.int .u8 t) ∧ w'.cell? ⟨w.heap.size, 2, none⟩ = some (.int .u16 f) ∧ w'.cell? ⟨w.heap.size, 3, none⟩ = some (.int .u32 s) ∧ w'.cell? ⟨w.heap.size, 4, none⟩ = some (.int .u32 l) ∧ w'.cell? ⟨w.heap.size, 5, none⟩ = some (.slice a n c) ∧ w'.cell? ⟨w.heap.size + 1, 0, none⟩ = some (.int .u8 v2) ∧ w'.cell? ⟨w.heap.size + 1, 1, none⟩ = some (.int .u8 t2) ∧ w'.cell? ⟨w.heap.size + 1, 2, none⟩ = some (.int .u16 f2) ∧ w'.cell? ⟨w.heap.size + 1, 3, none⟩ = some (.int .u32 s2) ∧ w'.cell? ⟨w.heap.size + 1, 4, none⟩ = some (.int .u32 l2) ∧ w'.cell? ⟨p3, 0, none⟩ = some (.int .u8 v3) ∧ w'.cell? ⟨p3, 1, none⟩ = some (.int .u8 t3) ∧ w'.cell? ⟨p3, 2, none⟩ = some (.int .u16 f3) ∧ w'.cell? ⟨p3, 3, none⟩ = some (.int .u32 s3) ∧ w'.cell? ⟨p3, 4, none⟩ = some (.int .u32 l3))
      (first | exact Fh.cells (by with_reducible assumption) | exact Fh.cells (Fh.alloc (by with_reducible assumption))) (first
      | (go_at_call 8; with_reducible refine (BY.it (.slice p12 l12 d12) _ P12 R12).mono ?_; rintro e w13 ⟨y13, ev, rfl, V13, R13, P13⟩)
      | (refine step_appendB3 68 rfl rfl (.tmp 65) (.tmp 67) rfl w11.drew.heap.size _ _ [] ns (Fh.ownE P11d).1 (Fh.ownE P11d).2 nb.it (alloc_below w11.drew _).size rfl rfl ?_; intro p12 l12 d12 w12 o12 k12; have P12 := (Fh.stepE o12 k12 P11d).1; have R12 := (Fh.stepE o12 k12 P11d).2))
    clear P11 P11d P12 R12 o12 k12 BY nb
    go_upto_region 12 with fail
    have P13d : Aside (Fh A w w.heap.size v t f s l (.slice a n c) ns (w.heap.size + 1) v2 t2 f2 s2 l2 (.slice a2 m c2) bs wb p3 v3 t3 f3 s3 l3 w13.drew) := ⟨P13.it.later ((Keeps.refl Nowhere w13).drew).bel⟩
    have SI := Aside.mk (fun W h => fh_size (A := A) (w0 := w) (p := w.heap.size) (v := v) (t := t) (f := f) (s := s) (l := l) (d := .slice a n c) (ns := ns) (p2 := w.heap.size + 1) (v2 := v2) (t2 := t2) (f2 := f2) (s2 := s2) (l2 := l2) (vb := .slice a2 m c2) (bs := bs) (w2 := wb) (p3 := p3) (v3 := v3) (t3 := t3) (f3 := f3) (s3 := s3) (l3 := l3) HZ.it W h)
    by_cases hsz : (n : Int) = szH t l
    · have V := V13.it
      unfold bE at V
      rw [if_pos hsz] at V
      have e0 := Coded.zero V
      subst e0
      have R14 := R13
      unfold bO at R14
      rw [← hnn.it, if_pos hsz] at R14
      rw [← hsz] at SI
      clear V V13 R13 hsz
      obtain ⟨yq, yc, ey⟩ := R14.it.shape
      obtain ⟨yl, hyl⟩ : ∃ yl, (enc v t f s l ++ ns).length = yl := ⟨_, rfl⟩
      rw [hyl] at ey
      subst ey
      clear hyl
      have R14d := Aside.mk (R14.it.later ((Keeps.refl Nowhere w13).drew).bel)
      go_region_held_law (fun w' => w'.cell? ⟨w.heap.size, 0, none⟩ = some (.int .u8 v) ∧ w'.cell? ⟨w.heap.size, 1, none⟩ = some (.int .u8 t) ∧ w'.cell? ⟨w.heap.size, 2, none⟩ = some (.int .u16 f) ∧ w'.cell? ⟨w.heap.size, 3, none⟩ = some (.int .u32 s) ∧ w'.cell? ⟨w.heap.size, 4, none⟩ = some (.int .u32 l) ∧ w'.cell? ⟨w.heap.size, 5, none⟩ = some (.slice a n c) ∧ w'.cell? ⟨w.heap.size + 1, 0, none⟩ = some (.int .u8 v2) ∧ w'.cell? ⟨w.heap.size + 1, 1, none⟩ = some (.int .u8 t2) ∧ w'.cell? ⟨w.heap.size + 1, 2, none⟩ = some (.int .u16 f2) ∧ w'.cell? ⟨w.heap.size + 1, 3, none⟩ = some (.int .u32 s2) ∧ w'.cell? ⟨w.heap.size + 1, 4, none⟩ = some (.int .u32 l2) ∧ w'.cell? ⟨p3, 0, none⟩ = some (.int .u8 v3) ∧ w'.cell? ⟨p3, 1, none⟩ = some (.int .u8 t3) ∧ w'.cell? ⟨p3, 2, none⟩ = some (.int .u16 f3) ∧ w'.cell? ⟨p3, 3, none⟩ = some (.int .u32 s3) ∧ w'.cell? ⟨p3, 4, none⟩ = some (.int .u32 l3)) (exact Fh.cells (by with_reducible assumption))
        (first | (go_at_call 9; with_reducible refine (SI.it _ (by with_reducible assumption)).mono ?_; rintro e w14 ⟨rfl, P14, K14⟩; have R15 := Aside.mk (R14d.it.later K14.it)))
      clear P13 P13d K14 R14 R14d SI
      go_upto_region 14 with fail
      obtain ⟨T, hT⟩ : ∃ T, Aside (strOf (enc v t f s l ++ ns) = T) := ⟨_, ⟨rfl⟩⟩
      obtain ⟨D, hD⟩ : ∃ D, Aside (strOf ns = D) := ⟨_, ⟨rfl⟩⟩
      obtain ⟨E, hEE⟩ : ∃ E, Aside (strOf (enc v t f s l) = E) := ⟨_, ⟨rfl⟩⟩
      have ADD : ∀ w', (Op.stringOp .add E D).run Tryd.prog w' = .ok (.string T) w' := by
        intro w'
        have := run_string_add_sum (P := Tryd.prog) (w := w') (strOf (enc v t f s l)) (strOf ns) (by have h := HN.it; rw [hnn.it] at h; rw [strOf_size, strOf_size, enc_length]; omega)
        rwa [strOf_append, hT.it, hD.it, hEE.it] at this
      have CB : Aside (∀ W, Aside (Fh A w w.heap.size v t f s l (.slice a n c) ns (w.heap.size + 1) v2 t2 f2 s2 l2 (.slice a2 m c2) bs wb p3 v3 t3 f3 s3 l3 W) → Aside (Below w14.heap.size w14 W) → (convert 26 9 (.slice a n c)).run Tryd.prog W = .ok (.string D) W ∧ (convert 26 9 (.slice yq yl yc)).run Tryd.prog W = .ok (.string T) W) := ⟨fun W h hb => by
        have a1 := rd_conv h.it.g.all.rR
        have a2 := rd_conv (R15.it.later hb.it)
        rw [hD.it] at a1
        rw [hT.it] at a2
        exact ⟨a1, a2⟩⟩
      have P14d : Aside (Fh A w w.heap.size v t f s l (.slice a n c) ns (w.heap.size + 1) v2 t2 f2 s2 l2 (.slice a2 m c2) bs wb p3 v3 t3 f3 s3 l3 w14.drew) := ⟨P14.it.later ((Keeps.refl Nowhere w14).drew).bel⟩
      have B14d : Aside (Below w14.heap.size w14 w14.drew) := ⟨((Keeps.refl Nowhere w14).drew).bel⟩
      have EN := Aside.mk (fun W h => fh_encode (A := A) (w0 := w) (p := w.heap.size) (v := v) (t := t) (f := f) (s := s) (l := l) (d := .slice a n c) (ns := ns) (p2 := w.heap.size + 1) (v2 := v2) (t2 := t2) (f2 := f2) (s2 := s2) (l2 := l2) (vb := .slice a2 m c2) (bs := bs) (w2 := wb) (p3 := p3) (v3 := v3) (t3 := t3) (f3 := f3) (s3 := s3) (l3 := l3) HZ.it W h)
      go_region_held_law (fun w' => w'.cell? ⟨w.heap.size, 0, none⟩ = some (.int .u8 v) ∧ w'.cell? ⟨w.heap.size, 1, none⟩ = some (.int .u8 t) ∧ w'.cell? ⟨w.heap.size, 2, none⟩ = some (.int .u16 f) ∧ w'.cell? ⟨w.heap.size, 3, none⟩ = some (.int .u32 s) ∧ w'.cell? ⟨w.heap.size, 4, none⟩ = some (.int .u32 l) ∧ w'.cell? ⟨w.heap.size, 5, none⟩ = some (.slice a n c) ∧ w'.cell? ⟨w.heap.size + 1, 0, none⟩ = some (.int .u8 v2) ∧ w'.cell? ⟨w.heap.size + 1, 1, none⟩ = some (.int .u8 t2) ∧ w'.cell? ⟨w.heap.size + 1, 2, none⟩ = some (.int .u16 f2) ∧ w'.cell? ⟨w.heap.size + 1, 3, none⟩ = some (.int .u32 s2) ∧ w'.cell? ⟨w.heap.size + 1, 4, none⟩ = some (.int .u32 l2) ∧ w'.cell? ⟨p3, 0, none⟩ = some (.int .u8 v3) ∧ w'.cell? ⟨p3, 1, none⟩ = some (.int .u8 t3) ∧ w'.cell? ⟨p3, 2, none⟩ = some (.int .u16 f3) ∧ w'.cell? ⟨p3, 3, none⟩ = some (.int .u32 s3) ∧ w'.cell? ⟨p3, 4, none⟩ = some (.int .u32 l3) ∧ (convert 26 9 (.slice a n c)).run Tryd.prog w' = .ok (.string D) w' ∧ (convert 26 9 (.slice yq yl yc)).run Tryd.prog w' = .ok (.string T) w') (exact fh_all14 CB (by with_reducible assumption) (by with_reducible assumption))
        (first | (go_at_call 6; with_reducible refine (EN.it _ (by with_reducible assumption)).mono ?_; rintro e w15 ⟨q15, c15, rfl, R16, P15, K15⟩; have CV := rd_conv R16.it; rw [hEE.it] at CV; have B15 : Aside (Below w14.heap.size w14 w15) := ⟨(((Keeps.refl Nowhere w14).drew).trans (Keeps.ofBelow K15.it)).bel⟩))
      go_wp2
      go_ret
      exact ⟨by simp, HB0.it.trans (P15.it.g.bB.mono HB0.it.size)⟩
    · have V := V13.it
      unfold bE at V
      rw [if_neg hsz] at V
      obtain ⟨ea13, e0⟩ := Coded.pos V (by decide)
      subst e0
      have hb : ((n : Int) == szH t l) = false := by simpa using hsz
      clear V V13 R13 hsz
      generalize szH t l = z at SI hb
      go_region_held_law (fun w' => w'.cell? ⟨w.heap.size, 0, none⟩ = some (.int .u8 v) ∧ w'.cell? ⟨w.heap.size, 1, none⟩ = some (.int .u8 t) ∧ w'.cell? ⟨w.heap.size, 2, none⟩ = some (.int .u16 f) ∧ w'.cell? ⟨w.heap.size, 3, none⟩ = some (.int .u32 s) ∧ w'.cell? ⟨w.heap.size, 4, none⟩ = some (.int .u32 l) ∧ w'.cell? ⟨w.heap.size, 5, none⟩ = some (.slice a n c) ∧ w'.cell? ⟨w.heap.size + 1, 0, none⟩ = some (.int .u8 v2) ∧ w'.cell? ⟨w.heap.size + 1, 1, none⟩ = some (.int .u8 t2) ∧ w'.cell? ⟨w.heap.size + 1, 2, none⟩ = some (.int .u16 f2) ∧ w'.cell? ⟨w.heap.size + 1, 3, none⟩ = some (.int .u32 s2) ∧ w'.cell? ⟨w.heap.size + 1, 4, none⟩ = some (.int .u32 l2) ∧ w'.cell? ⟨p3, 0, none⟩ = some (.int .u8 v3) ∧ w'.cell? ⟨p3, 1, none⟩ = some (.int .u8 t3) ∧ w'.cell? ⟨p3, 2, none⟩ = some (.int .u16 f3) ∧ w'.cell? ⟨p3, 3, none⟩ = some (.int .u32 s3) ∧ w'.cell? ⟨p3, 4, none⟩ = some (.int .u32 l3)) (exact Fh.cells (by with_reducible assumption))
        (first | (go_at_call 9; with_reducible refine (SI.it _ (by with_reducible assumption)).mono ?_; rintro e w14 ⟨rfl, P14, _⟩))
      go_upto_region 14 with fail
      go_quiet (fail)
      go_wp2
      go_ret
      exact ⟨rfl, HB0.it.trans ((P14.it.later ((Keeps.refl Nowhere w14).drewN _).bel).g.bB.mono HB0.it.size)⟩
theorem frameBack_walk {A : Nat → Addr} (v : Value) (z : FV) (v' : Value) (z' : HV) (vb : Value) (bs : List Int) (w : World) (hs : At4W A w w) (hz : FrameArg w v z) (hz' : HdrArg w v' z') (hb : BytesArg w vb bs) :
    Calls Tryd.prog 3 #[v, v', vb] w fun e w' => e = .returned (.bool true) ∧ Below w.heap.size w w' := by
  obtain ⟨rfl, hok, hr, hbt, hn⟩ := hz
  obtain ⟨rfl, hok'⟩ := hz'
  exact frameBack_law z.h.v z.h.t z.h.f z.h.s z.h.l z.sl z.ns z'.v z'.t z'.f z'.s z'.l vb bs w hs.a hs.g hr hbt hn hok hok' hb.1 hb.2.1 hb.2.2
end Go.Proofs.YtfpdllckpcjgdaaDoor
