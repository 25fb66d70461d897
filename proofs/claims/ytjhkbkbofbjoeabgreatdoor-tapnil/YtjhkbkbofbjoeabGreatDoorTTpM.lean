/-
  package tap: Parse, of a frame's line
-/
import Derived.Test.YtjhkbkbofbjoeabGreatDoorTTpK
namespace Go.Proofs.YtjhkbkbofbjoeabGreatDoor
open Go.RowKit Go.Maps
attribute [-go_sem] run_index_string

def isKind (x : List UInt8) : Prop := x = [100, 97, 116, 97] ∨ x = [119, 105, 110, 100, 111, 119] ∨ x = [112, 105, 110, 103] ∨ x = [97, 119, 97, 121] ∨ x = [116, 121, 112, 101]
theorem words_head (t v : Nat) (a b c d : Bool) (h s l : Nat) : ∃ x ws rest, Wd.words t v a b c d h s l = x :: ws ∧ isKind x ∧ (x = [100, 97, 116, 97] ↔ t = 0) ∧ Wd.jn (x :: ws) = x ++ 32 :: rest := by
  have ne : ∀ p : List (List UInt8), ∃ y r, p ++ (Wd.ver v ++ ((Wd.fls a b c d ++ Wd.fur h) ++ Wd.fin s l)) = y :: r := fun p => by
    cases hq : p ++ (Wd.ver v ++ ((Wd.fls a b c d ++ Wd.fur h) ++ Wd.fin s l)) with
    | nil => simp [Wd.fin] at hq
    | cons y r => exact ⟨y, r, rfl⟩
  unfold Wd.words Wd.ty
  split
  · rename_i h4
    obtain ⟨y, r, e⟩ := ne []
    rw [List.nil_append] at e
    rw [e]
    have ht : t = 0 ∨ t = 1 ∨ t = 2 ∨ t = 3 := by omega
    rcases ht with rfl | rfl | rfl | rfl
    all_goals refine ⟨_, y :: r, y ++ Wd.tl r, rfl, ?_, ?_, by simp [Wd.jn, Wd.tl]⟩
    all_goals simp [isKind, Wd.wT]
  · rename_i h4
    obtain ⟨y, r, e⟩ := ne [Lib.decDigits t]
    rw [List.singleton_append] at e
    rw [show [[116, 121, 112, 101], Lib.decDigits t] ++ (Wd.ver v ++ ((Wd.fls a b c d ++ Wd.fur h) ++ Wd.fin s l)) = [116, 121, 112, 101] :: (Lib.decDigits t :: (Wd.ver v ++ ((Wd.fls a b c d ++ Wd.fur h) ++ Wd.fin s l))) from rfl, e]
    exact ⟨[116, 121, 112, 101], y :: r, y ++ Wd.tl r, rfl, by simp [isKind], by simp; omega, by simp [Wd.jn, Wd.tl]⟩
theorem bitB_nat (f b : Nat) (hf : f ≤ 65535) (hb : b ≤ 65535) : bitB (f : Int) (b : Int) = (f &&& b != 0) := by
  unfold bitB
  rw [and_u16 f b hf hb]
  have e : ((f &&& b : Nat) : Int) = 0 ↔ f &&& b = 0 := by omega
  rw [Bool.eq_iff_iff]
  simp only [bne_iff_ne, ne_eq, e]
/-- a header's text: its first word, and what package tap guesses of it -/
theorem text_guess {v t f s l : Int} (H : Fits v t f s l) : ∃ x ws rest, txB v t f s l = Wd.jn (x :: ws) ∧ isKind x ∧ (x = [100, 97, 116, 97] ↔ t = 0) ∧ Wd.jn (x :: ws) = x ++ 32 :: rest ∧ (∀ y ∈ x :: ws, (32 : UInt8) ∉ y) ∧
    Tp.gRun [] ⟨0, 0, 0, 0, 0⟩ (x :: ws) = some ⟨v.toNat, t.toNat, f.toNat, s.toNat, l.toNat⟩ := by
  have e := txB_words v t f s l H.v0 H.t0 H.f0
  obtain ⟨x, ws, rest, ew, hk, hd, hj⟩ := words_head t.toNat v.toNat (bitB f 1) (bitB f 2) (bitB f 4) (bitB f 8) (f / 16 * 16).toNat s.toNat l.toNat
  have := H.v0; have := H.v1; have := H.t0; have := H.t1; have := H.f0; have := H.f1; have := H.s0; have := H.s1; have := H.l0; have := H.l1
  refine ⟨x, ws, rest, by rw [e, ew], hk, by rw [hd]; omega, hj, by rw [← ew]; exact Wd.words_blank _ _ _ _ _ _ _ _ _, ?_⟩
  rw [← ew, Tp.gRun_words _ _ _ _ _ _ _ _ _ (by omega) (by omega) (by omega) (by omega) (by omega)]
  obtain ⟨m, rfl⟩ : ∃ m : Nat, f = m := ⟨f.toNat, by omega⟩
  have e16 : ((m : Int) / 16 * 16).toNat = m / 16 * 16 := by omega
  have l1 : bitB (m : Int) 1 = (m &&& 1 != 0) := bitB_nat m 1 (by omega) (by decide)
  have l2 : bitB (m : Int) 2 = (m &&& 2 != 0) := bitB_nat m 2 (by omega) (by decide)
  have l3 : bitB (m : Int) 4 = (m &&& 4 != 0) := bitB_nat m 4 (by omega) (by decide)
  have l4 : bitB (m : Int) 8 = (m &&& 8 != 0) := bitB_nat m 8 (by omega) (by decide)
  rw [e16, Tp.lowF_or m _ _ _ _ l1 l2 l3 l4]
  rfl
theorem six (W : World) (rb : Nat) (v0 v1 v2 v3 v4 v5 : Value) : Keeps (fun k => k = rb) W ((((((W.setCell ⟨rb, 0, none⟩ v0).setCell ⟨rb, 1, none⟩ v1).setCell ⟨rb, 2, none⟩ v2).setCell ⟨rb, 3, none⟩ v3).setCell ⟨rb, 4, none⟩ v4).setCell ⟨rb, 5, none⟩ v5) ∧
    ∀ t a0 a1 a2 a3 a4 a5, Cells W rb t [a0, a1, a2, a3, a4, a5] → Cells ((((((W.setCell ⟨rb, 0, none⟩ v0).setCell ⟨rb, 1, none⟩ v1).setCell ⟨rb, 2, none⟩ v2).setCell ⟨rb, 3, none⟩ v3).setCell ⟨rb, 4, none⟩ v4).setCell ⟨rb, 5, none⟩ v5) rb t [v0, v1, v2, v3, v4, v5] := by
  refine ⟨?_, fun t a0 a1 a2 a3 a4 a5 h => ?_⟩
  · have k5 := (five W rb v0 v1 v2 v3 v4).1
    generalize ((((W.setCell ⟨rb, 0, none⟩ v0).setCell ⟨rb, 1, none⟩ v1).setCell ⟨rb, 2, none⟩ v2).setCell ⟨rb, 3, none⟩ v3).setCell ⟨rb, 4, none⟩ v4 = W5 at k5 ⊢
    exact k5.setCell _ _ (fun _ => rfl)
  · have h1 : Cells (W.setCell ⟨rb, 0, none⟩ v0) rb t [v0, a1, a2, a3, a4, a5] := h.setCell 0 v0
    generalize W.setCell ⟨rb, 0, none⟩ v0 = W1 at h1 ⊢
    have h2 : Cells (W1.setCell ⟨rb, 1, none⟩ v1) rb t [v0, v1, a2, a3, a4, a5] := h1.setCell 1 v1
    generalize W1.setCell ⟨rb, 1, none⟩ v1 = W2 at h2 ⊢
    have h3 : Cells (W2.setCell ⟨rb, 2, none⟩ v2) rb t [v0, v1, v2, a3, a4, a5] := h2.setCell 2 v2
    generalize W2.setCell ⟨rb, 2, none⟩ v2 = W3 at h3 ⊢
    have h4 : Cells (W3.setCell ⟨rb, 3, none⟩ v3) rb t [v0, v1, v2, v3, a4, a5] := h3.setCell 3 v3
    generalize W3.setCell ⟨rb, 3, none⟩ v3 = W4 at h4 ⊢
    have h5 : Cells (W4.setCell ⟨rb, 4, none⟩ v4) rb t [v0, v1, v2, v3, v4, a5] := h4.setCell 4 v4
    generalize W4.setCell ⟨rb, 4, none⟩ v4 = W5 at h5 ⊢
    exact h5.setCell 5 v5
theorem head_line {v t f s l : Int} {ns : List Int} {x rest : List UInt8} (e : txB v t f s l = x ++ 32 :: rest) : lineB v t f s l ns = x ++ 32 :: (rest ++ if t = 0 then 32 :: tb ns else []) := by
  unfold lineB
  rw [e, List.append_assoc]
  rfl
set_option maxRecDepth 20000 in
set_option maxHeartbeats 4000000 in
theorem parse_at (w : World) {v t f s l : Int} {ns : List Int} (hW : Words w) (H : Fits v t f s l) (hz : (ns.length : Int) = szH t l) (hb : AreBytes ns) (hl : ns.length ≤ 4398046511104) :
    Calls Tryz.prog 14 #[.string (str (lineB v t f s l ns))] w fun e w' => ∃ d, e = .returned (.tuple #[frm v t f s l d, .nilIface]) ∧ Aside (Rd w' d ns) ∧ Aside (Below w.heap.size w w') := by
  obtain ⟨x, ws, rest, e1, hk, hd, hj, hnb, hg⟩ := text_guess H
  have hTl := txB_len v t f s l H.v1 H.t0 H.t1 H.f1 H.s1 H.l1
  have CU := fun W => Aside.mk (cut_at W (p := x) (r := rest ++ if t = 0 then 32 :: tb ns else []) (hnb x (by simp)) (by
    have h1 := line_len (ns := ns) H
    rw [head_line (by rw [e1, hj])] at h1
    omega))
  have CU : Aside (∀ W, Calls Tryz.prog 34 #[.string (str (lineB v t f s l ns)), .string (str [32])] W fun e w' => e = .returned (.tuple #[.string (str x), .string (str (rest ++ if t = 0 then 32 :: tb ns else [])), .bool true]) ∧ Aside (Below W.heap.size W w')) := ⟨fun W => by
    have := (CU W).it
    rwa [← head_line (by rw [e1, hj])] at this⟩
  have BG : Aside (∀ W, Calls Tryz.prog 35 #[.string (str x)] W fun e w' => e = .returned (.bool true) ∧ w' = W) := ⟨fun W => begins_at W hk⟩
  have GU : Aside (∀ W, Calls Tryz.prog 37 #[.string (str (txB v t f s l))] W fun e w' => e = .returned (hdr v t f s l) ∧ Aside (Below W.heap.size W w')) := ⟨fun W => by
    have := guess_at W hnb (by rw [← e1]; omega) hg
    rw [← e1] at this
    refine this.mono ?_
    rintro e w' ⟨rfl, b⟩
    refine ⟨?_, b⟩
    have := H.v0; have := H.t0; have := H.f0; have := H.s0; have := H.l0
    simp only [hcl, hdr, Int.toNat_of_nonneg H.v0, Int.toNat_of_nonneg H.t0, Int.toNat_of_nonneg H.f0, Int.toNat_of_nonneg H.s0, Int.toNat_of_nonneg H.l0]⟩
  have TX : Aside (∀ W, Below w.heap.size w W → Calls Tryz.prog 17 #[hdr v t f s l] W fun e w' => e = .returned (.string (str (txB v t f s l))) ∧ Below W.heap.size W w') := ⟨fun W h => text_any v t f s l H.v0 H.v1 H.t0 H.t1 H.f0 H.f1 H.s0 H.s1 H.l0 H.l1 W (hW.later h)⟩
  have SZ : Aside (∀ W, Calls Tryz.prog 16 #[hdr v t f s l] W fun e w' => e = .returned (.int .i64 (szH t l)) ∧ w' = W.alloc (hbox v t f s l)) := ⟨fun W => size_any v t f s l W H.l0 H.l1⟩
  have bd := str_beq x [100, 97, 116, 97]
  have HZ := Aside.mk hz
  have HBY := Aside.mk hb
  have HL := Aside.mk hl
  have HT := Aside.mk hTl
  by_cases h0 : t = 0
  · rw [decide_eq_true (hd.2 h0)] at bd
    have EL : lineB v t f s l ns = txB v t f s l ++ 32 :: tb ns := by unfold lineB; rw [if_pos h0]
    have PA : Aside (∀ W, Calls Tryz.prog 36 #[.string (str (lineB v t f s l ns)), .bool true] W fun e w' => ∃ q c, e = .returned (.tuple #[.string (str (txB v t f s l)), .slice q ns.length c, .nilIface]) ∧ Aside (OwnB W.heap.size w' (.slice q ns.length c) ns) ∧ Aside (Below W.heap.size W w')) := ⟨fun W => by
      rw [EL]
      refine (parts_at W HBY.it HL.it (by have := HT.it; omega)).mono ?_
      rintro e w' ⟨q, c, rfl, O, B⟩
      exact ⟨q, c, rfl, O, B⟩⟩
    have H0 := Aside.mk h0
    obtain ⟨Z, hZ⟩ : ∃ Z, szH t l = Z := ⟨_, rfl⟩
    rw [hZ] at HZ SZ
    have hne : ((Z != (ns.length : Int)) = false) := by have := HZ.it; simp [this]
    clear e1 hk hd hj hnb hg hTl hz hb hl hW EL hZ h0
    generalize (rest ++ if t = 0 then 32 :: tb ns else []) = rr at CU
    generalize str x = Sx at CU BG bd
    generalize str (lineB v t f s l ns) = SL at CU PA ⊢
    generalize str (txB v t f s l) = ST at PA GU TX
    go_enter Tryz.func14, Tryz.ntmps14
    go_upto_region 1 with fail
    obtain ⟨w1, hw1⟩ : ∃ w1, w.alloc (.cells #[.int .u8 0, .int .u8 0, .int .u16 0, .int .u32 0, .int .u32 0, .slice none 0 0] 34) = w1 := ⟨_, rfl⟩
    have CR : Aside (Cells w1 w.heap.size 34 [.int .u8 0, .int .u8 0, .int .u16 0, .int .u32 0, .int .u32 0, .slice none 0 0]) := ⟨by rw [← hw1]; exact Cells.new w _ _⟩
    have B1 : Aside (Below w.heap.size w w1) := ⟨by rw [← hw1]; exact alloc_below _ _⟩
    rw [hw1]
    clear hw1
    obtain ⟨rb, hrb⟩ : ∃ rb, w.heap.size = rb := ⟨_, rfl⟩
    have HRB := Aside.mk hrb
    rw [hrb] at CR ⊢
    clear hrb
    go_upto_region 7 with (first
      | (go_at_call 34; refine (CU.it _).mono ?_; rintro e w2 ⟨rfl, B2⟩)
      | (go_at_call 35; refine (BG.it _).mono ?_; rintro e w3 ⟨rfl, rfl⟩)
      | (go_at_call 36; refine (PA.it _).mono ?_; rintro e w4 ⟨q, c, rfl, O4, B4⟩)
      | fail)
    have K4 : Aside (Keeps Nowhere w1 w4) := ⟨(Keeps.ofBelow B2.it).trans (Keeps.ofBelow B4.it)⟩
    have NB : Aside (∀ g, (Value.slice q ns.length c).ownBlock = some g → g ≠ rb) := ⟨fun g hg e => by
      have h1 := owns_base O4.it g hg
      have h2 := B2.it.size
      have h3 := CR.it.lt
      omega⟩
    have O4 := Aside.mk O4.it.rd
    clear BG CU PA B2 B4
    go_upto_region 8 with (first
      | (go_at_call 37; refine (GU.it _).mono ?_; rintro e w5 ⟨rfl, B5⟩)
      | fail)
    have K5 : Aside (Keeps Nowhere w1 (w5.alloc (hbox v t f s l))) := ⟨(K4.it.trans (Keeps.ofBelow B5.it)).alloc _⟩
    have H5 := Aside.mk (HB.new w5 v t f s l)
    have R5 : Aside (Rd (w5.alloc (hbox v t f s l)) (.slice q ns.length c) ns) := ⟨(O4.it.later B5.it).later (alloc_below _ _)⟩
    clear O4 B5 GU K4
    generalize w5.heap.size = hbb at H5 ⊢
    generalize w5.alloc (hbox v t f s l) = w6 at K5 H5 R5 ⊢
    have TX6 := Aside.mk (TX.it w6 (below_next B1.it K5.it B1.it.size (fun _ x _ => x.elim)))
    obtain ⟨g0, g1, g2, g3, g4⟩ := H5.it
    go_upto_region 10 with (first
      | (go_at_call 17; refine TX6.it.mono ?_; rintro e w7 ⟨rfl, b7⟩; have B7 := Aside.mk b7; clear b7)
      | fail)
    have K7 : Aside (Keeps Nowhere w1 w7) := ⟨K5.it.trans (Keeps.ofBelow B7.it)⟩
    have H7 := Aside.mk (H5.it.later B7.it)
    have R7 := Aside.mk (R5.it.later B7.it)
    clear g0 g1 g2 g3 g4 TX6 H5 R5 K5
    obtain ⟨g0, g1, g2, g3, g4⟩ := H7.it
    have SZ7 := Aside.mk (SZ.it w7)
    go_upto_region 12 with (first
      | (go_at_call 16; refine SZ7.it.mono ?_; rintro e w8 ⟨rfl, rfl⟩)
      | fail)
    have K8 : Aside (Keeps Nowhere w1 (w7.alloc (hbox v t f s l))) := ⟨K7.it.alloc _⟩
    have H8 := Aside.mk (H7.it.later (alloc_below w7 (hbox v t f s l)))
    have R8 := Aside.mk (R7.it.later (alloc_below w7 (hbox v t f s l)))
    generalize w7.alloc (hbox v t f s l) = w8 at K8 H8 R8 ⊢
    clear g0 g1 g2 g3 g4
    obtain ⟨g0, g1, g2, g3, g4⟩ := H8.it
    have C8 := Aside.mk (CR.it.later K8.it (fun x => x))
    have f0 := C8.it.frozen 0
    have f1 := C8.it.frozen 1
    have f2 := C8.it.frozen 2
    have f3 := C8.it.frozen 3
    have f4 := C8.it.frozen 4
    have f5 := C8.it.frozen 5
    have r0 : w8.cell? ⟨rb, 0, none⟩ = some (.int .u8 0) := by rw [C8.it.cell]; rfl
    have r1 : w8.cell? ⟨rb, 1, none⟩ = some (.int .u8 0) := by rw [C8.it.cell]; rfl
    have r2 : w8.cell? ⟨rb, 2, none⟩ = some (.int .u16 0) := by rw [C8.it.cell]; rfl
    have r3 : w8.cell? ⟨rb, 3, none⟩ = some (.int .u32 0) := by rw [C8.it.cell]; rfl
    have r4 : w8.cell? ⟨rb, 4, none⟩ = some (.int .u32 0) := by rw [C8.it.cell]; rfl
    have r5 : w8.cell? ⟨rb, 5, none⟩ = some (.slice none 0 0) := by rw [C8.it.cell]; rfl
    go_wp2_with fail
    obtain ⟨KR, CR0⟩ := six w8 rb (.int .u8 v) (.int .u8 t) (.int .u16 f) (.int .u32 s) (.int .u32 l) (.slice q ns.length c)
    have CF := CR0 _ _ _ _ _ _ _ C8.it
    clear CR0 f0 f1 f2 f3 f4 f5 r0 r1 r2 r3 r4 r5 g0 g1 g2 g3 g4
    generalize ((((((w8.setCell ⟨rb, 0, none⟩ (.int .u8 v)).setCell ⟨rb, 1, none⟩ (.int .u8 t)).setCell ⟨rb, 2, none⟩ (.int .u16 f)).setCell ⟨rb, 3, none⟩ (.int .u32 s)).setCell ⟨rb, 4, none⟩ (.int .u32 l)).setCell ⟨rb, 5, none⟩ (.slice q ns.length c)) = Wf at KR CF ⊢
    have z0 := CF.cell 0
    have z1 := CF.cell 1
    have z2 := CF.cell 2
    have z3 := CF.cell 3
    have z4 := CF.cell 4
    have z5 := CF.cell 5
    simp only [List.getElem?_cons_zero, List.getElem?_cons_succ] at z0 z1 z2 z3 z4 z5
    have BF : Below w.heap.size w Wf := below_next (below_next B1.it K8.it B1.it.size (fun _ x _ => x.elim)) KR (Nat.le_trans B1.it.size K8.it.size) (fun k e _ => by have : k = rb := e; have := HRB.it; omega)
    have RF := R8.it.keep KR (fun g hg e => NB.it g hg e)
    clear KR CF
    refine bodyPost_ret (v := .tuple #[frm v t f s l (.slice q ns.length c), .nilIface]) (by simp [results, Tryz.f14, go_sem, z0, z1, z2, z3, z4, z5]) rfl ?_
    exact ⟨_, rfl, ⟨RF⟩, ⟨BF⟩⟩
  · rw [decide_eq_false (fun e => h0 (hd.1 e))] at bd
    have EL : lineB v t f s l ns = txB v t f s l := by unfold lineB; rw [if_neg h0, List.append_nil]
    have EN : ns = [] := by
      have h1 : szH t l = 0 := if_neg h0
      have h2 := HZ.it
      rw [h1] at h2
      exact List.eq_nil_of_length_eq_zero (by omega)
    have PA : Aside (∀ W, Calls Tryz.prog 36 #[.string (str (lineB v t f s l ns)), .bool false] W fun e w' => ∃ q c, e = .returned (.tuple #[.string (str (txB v t f s l)), .slice q ns.length c, .nilIface]) ∧ Aside (OwnB W.heap.size w' (.slice q ns.length c) ns) ∧ Aside (Below W.heap.size W w')) := ⟨fun W => by
      rw [EL]
      refine (parts_no W (str (txB v t f s l))).mono ?_
      rintro e w' ⟨rfl, rfl⟩
      refine ⟨none, 0, by rw [EN]; rfl, ⟨?_⟩, ⟨Below.refl _ _⟩⟩
      rw [EN]
      exact ⟨rfl, .inl ⟨rfl, rfl⟩⟩⟩
    clear EN
    have H0 := Aside.mk h0
    obtain ⟨Z, hZ⟩ : ∃ Z, szH t l = Z := ⟨_, rfl⟩
    rw [hZ] at HZ SZ
    have hne : ((Z != (ns.length : Int)) = false) := by have := HZ.it; simp [this]
    clear e1 hk hd hj hnb hg hTl hz hb hl hW EL hZ h0
    generalize (rest ++ if t = 0 then 32 :: tb ns else []) = rr at CU
    generalize str x = Sx at CU BG bd
    generalize str (lineB v t f s l ns) = SL at CU PA ⊢
    generalize str (txB v t f s l) = ST at PA GU TX
    go_enter Tryz.func14, Tryz.ntmps14
    go_upto_region 1 with fail
    obtain ⟨w1, hw1⟩ : ∃ w1, w.alloc (.cells #[.int .u8 0, .int .u8 0, .int .u16 0, .int .u32 0, .int .u32 0, .slice none 0 0] 34) = w1 := ⟨_, rfl⟩
    have CR : Aside (Cells w1 w.heap.size 34 [.int .u8 0, .int .u8 0, .int .u16 0, .int .u32 0, .int .u32 0, .slice none 0 0]) := ⟨by rw [← hw1]; exact Cells.new w _ _⟩
    have B1 : Aside (Below w.heap.size w w1) := ⟨by rw [← hw1]; exact alloc_below _ _⟩
    rw [hw1]
    clear hw1
    obtain ⟨rb, hrb⟩ : ∃ rb, w.heap.size = rb := ⟨_, rfl⟩
    have HRB := Aside.mk hrb
    rw [hrb] at CR ⊢
    clear hrb
    go_upto_region 7 with (first
      | (go_at_call 34; refine (CU.it _).mono ?_; rintro e w2 ⟨rfl, B2⟩)
      | (go_at_call 35; refine (BG.it _).mono ?_; rintro e w3 ⟨rfl, rfl⟩)
      | (go_at_call 36; refine (PA.it _).mono ?_; rintro e w4 ⟨q, c, rfl, O4, B4⟩)
      | fail)
    have K4 : Aside (Keeps Nowhere w1 w4) := ⟨(Keeps.ofBelow B2.it).trans (Keeps.ofBelow B4.it)⟩
    have NB : Aside (∀ g, (Value.slice q ns.length c).ownBlock = some g → g ≠ rb) := ⟨fun g hg e => by
      have h1 := owns_base O4.it g hg
      have h2 := B2.it.size
      have h3 := CR.it.lt
      omega⟩
    have O4 := Aside.mk O4.it.rd
    clear BG CU PA B2 B4
    go_upto_region 8 with (first
      | (go_at_call 37; refine (GU.it _).mono ?_; rintro e w5 ⟨rfl, B5⟩)
      | fail)
    have K5 : Aside (Keeps Nowhere w1 (w5.alloc (hbox v t f s l))) := ⟨(K4.it.trans (Keeps.ofBelow B5.it)).alloc _⟩
    have H5 := Aside.mk (HB.new w5 v t f s l)
    have R5 : Aside (Rd (w5.alloc (hbox v t f s l)) (.slice q ns.length c) ns) := ⟨(O4.it.later B5.it).later (alloc_below _ _)⟩
    clear O4 B5 GU K4
    generalize w5.heap.size = hbb at H5 ⊢
    generalize w5.alloc (hbox v t f s l) = w6 at K5 H5 R5 ⊢
    have TX6 := Aside.mk (TX.it w6 (below_next B1.it K5.it B1.it.size (fun _ x _ => x.elim)))
    obtain ⟨g0, g1, g2, g3, g4⟩ := H5.it
    go_upto_region 10 with (first
      | (go_at_call 17; refine TX6.it.mono ?_; rintro e w7 ⟨rfl, b7⟩; have B7 := Aside.mk b7; clear b7)
      | fail)
    have K7 : Aside (Keeps Nowhere w1 w7) := ⟨K5.it.trans (Keeps.ofBelow B7.it)⟩
    have H7 := Aside.mk (H5.it.later B7.it)
    have R7 := Aside.mk (R5.it.later B7.it)
    clear g0 g1 g2 g3 g4 TX6 H5 R5 K5
    obtain ⟨g0, g1, g2, g3, g4⟩ := H7.it
    have SZ7 := Aside.mk (SZ.it w7)
    go_upto_region 12 with (first
      | (go_at_call 16; refine SZ7.it.mono ?_; rintro e w8 ⟨rfl, rfl⟩)
      | fail)
    have K8 : Aside (Keeps Nowhere w1 (w7.alloc (hbox v t f s l))) := ⟨K7.it.alloc _⟩
    have H8 := Aside.mk (H7.it.later (alloc_below w7 (hbox v t f s l)))
    have R8 := Aside.mk (R7.it.later (alloc_below w7 (hbox v t f s l)))
    generalize w7.alloc (hbox v t f s l) = w8 at K8 H8 R8 ⊢
    clear g0 g1 g2 g3 g4
    obtain ⟨g0, g1, g2, g3, g4⟩ := H8.it
    have C8 := Aside.mk (CR.it.later K8.it (fun x => x))
    have f0 := C8.it.frozen 0
    have f1 := C8.it.frozen 1
    have f2 := C8.it.frozen 2
    have f3 := C8.it.frozen 3
    have f4 := C8.it.frozen 4
    have f5 := C8.it.frozen 5
    have r0 : w8.cell? ⟨rb, 0, none⟩ = some (.int .u8 0) := by rw [C8.it.cell]; rfl
    have r1 : w8.cell? ⟨rb, 1, none⟩ = some (.int .u8 0) := by rw [C8.it.cell]; rfl
    have r2 : w8.cell? ⟨rb, 2, none⟩ = some (.int .u16 0) := by rw [C8.it.cell]; rfl
    have r3 : w8.cell? ⟨rb, 3, none⟩ = some (.int .u32 0) := by rw [C8.it.cell]; rfl
    have r4 : w8.cell? ⟨rb, 4, none⟩ = some (.int .u32 0) := by rw [C8.it.cell]; rfl
    have r5 : w8.cell? ⟨rb, 5, none⟩ = some (.slice none 0 0) := by rw [C8.it.cell]; rfl
    go_wp2_with fail
    obtain ⟨KR, CR0⟩ := six w8 rb (.int .u8 v) (.int .u8 t) (.int .u16 f) (.int .u32 s) (.int .u32 l) (.slice q ns.length c)
    have CF := CR0 _ _ _ _ _ _ _ C8.it
    clear CR0 f0 f1 f2 f3 f4 f5 r0 r1 r2 r3 r4 r5 g0 g1 g2 g3 g4
    generalize ((((((w8.setCell ⟨rb, 0, none⟩ (.int .u8 v)).setCell ⟨rb, 1, none⟩ (.int .u8 t)).setCell ⟨rb, 2, none⟩ (.int .u16 f)).setCell ⟨rb, 3, none⟩ (.int .u32 s)).setCell ⟨rb, 4, none⟩ (.int .u32 l)).setCell ⟨rb, 5, none⟩ (.slice q ns.length c)) = Wf at KR CF ⊢
    have z0 := CF.cell 0
    have z1 := CF.cell 1
    have z2 := CF.cell 2
    have z3 := CF.cell 3
    have z4 := CF.cell 4
    have z5 := CF.cell 5
    simp only [List.getElem?_cons_zero, List.getElem?_cons_succ] at z0 z1 z2 z3 z4 z5
    have BF : Below w.heap.size w Wf := below_next (below_next B1.it K8.it B1.it.size (fun _ x _ => x.elim)) KR (Nat.le_trans B1.it.size K8.it.size) (fun k e _ => by have : k = rb := e; have := HRB.it; omega)
    have RF := R8.it.keep KR (fun g hg e => NB.it g hg e)
    clear KR CF
    refine bodyPost_ret (v := .tuple #[frm v t f s l (.slice q ns.length c), .nilIface]) (by simp [results, Tryz.f14, go_sem, z0, z1, z2, z3, z4, z5]) rfl ?_
    exact ⟨_, rfl, ⟨RF⟩, ⟨BF⟩⟩
end Go.Proofs.YtjhkbkbofbjoeabGreatDoor
