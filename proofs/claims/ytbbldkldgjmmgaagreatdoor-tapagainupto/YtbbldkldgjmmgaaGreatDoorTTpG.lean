/-
  package tap: guess, of a header's words
-/
import Derived.Test.YtbbldkldgjmmgaaGreatDoorTTpN
import Derived.Test.YtbbldkldgjmmgaaGreatDoorTTpS
import Derived.Test.YtbbldkldgjmmgaaGreatDoorGiH
import Derived.Test.YtbbldkldgjmmgaaGreatDoorAnyT
namespace Go.Proofs.YtbbldkldgjmmgaaGreatDoor
open Go.RowKit Go.Shelf Go.Maps
attribute [-go_sem] run_index_string
attribute [local go_sem] Oper.semAt_some

abbrev hcl (h : Tp.Hd) : List Value := [.int .u8 h.v, .int .u8 h.t, .int .u16 h.f, .int .u32 h.s, .int .u32 h.l]
abbrev hc0 : List Value := [.int .u8 0, .int .u8 0, .int .u16 0, .int .u32 0, .int .u32 0]
/-- the walk's world: the header's box, what stands ahead, the answer's box, the mark -/
structure Gw (w0 : World) (hb ab rb D : Nat) (h : Tp.Hd) (a : List UInt8) (W : World) : Prop where
  hc : Cells W hb 31 (hcl h)
  ac : Cells W ab 9 [.string (str a)]
  rc : Cells W rb 31 hc0
  bel : Below w0.heap.size w0 W
  df : W.heap[D]? = some (.deferred (some []))
section
variable {w0 W W' : World} {hb ab rb D b : Nat} {h : Tp.Hd} {a : List UInt8} {S : Nat → Prop}
theorem Gw.later (g : Gw w0 hb ab rb D h a W) (hk : Keeps S W W') (h1 : ¬ S hb) (h2 : ¬ S ab) (h3 : ¬ S rb) (h4 : ¬ S D) (hs : ∀ k, S k → k < W.heap.size → w0.heap.size ≤ k) : Gw w0 hb ab rb D h a W' :=
  ⟨g.hc.later hk h1, g.ac.later hk h2, g.rc.later hk h3, below_next g.bel hk g.bel.size hs, (hk.block D (Array.getElem?_eq_some_iff.1 g.df).1 h4).trans g.df⟩
theorem putObj_keepsT (W : World) (d : Nat) (o : Obj) : Keeps (fun k => k = d) W (W.putObj d o) := ⟨rfl, rfl, rfl, by simp [World.putObj], fun k _ hn => putObj_other hn⟩
theorem Gw.quiet (g : Gw w0 hb ab rb D h a W) (hk : Keeps Nowhere W W') : Gw w0 hb ab rb D h a W' := g.later hk (fun x => x) (fun x => x) (fun x => x) (fun x => x) (fun _ x _ => x.elim)
theorem Gw.setH {i : Nat} {v : Value} {h' : Tp.Hd} (g : Gw w0 hb ab rb D h a W) (hset : (hcl h).set i v = hcl h') (h1 : hb ≠ ab) (h2 : hb ≠ rb) (h3 : hb ≠ D) (h4 : w0.heap.size ≤ hb) : Gw w0 hb ab rb D h' a (W.setCell ⟨hb, i, none⟩ v) := by
  have K : Keeps (fun k => k = hb) W (W.setCell ⟨hb, i, none⟩ v) := (Keeps.refl _ _).setCell _ _ (fun _ => rfl)
  refine ⟨by rw [← hset]; exact g.hc.setCell i v, g.ac.later K (Ne.symm h1), g.rc.later K (Ne.symm h2), below_next g.bel K g.bel.size (fun k e _ => by have : k = hb := e; omega), (K.block D (Array.getElem?_eq_some_iff.1 g.df).1 (Ne.symm h3)).trans g.df⟩
theorem Gw.setA {x : List UInt8} (g : Gw w0 hb ab rb D h a W) (h1 : hb ≠ ab) (h2 : ab ≠ rb) (h3 : ab ≠ D) (h4 : w0.heap.size ≤ ab) : Gw w0 hb ab rb D h x (W.setCell ⟨ab, 0, none⟩ (.string (str x))) := by
  have K : Keeps (fun k => k = ab) W (W.setCell ⟨ab, 0, none⟩ (.string (str x))) := (Keeps.refl _ _).setCell _ _ (fun _ => rfl)
  exact ⟨g.hc.later K h1, g.ac.setCell 0 _, g.rc.later K (Ne.symm h2), below_next g.bel K g.bel.size (fun k e _ => by have : k = ab := e; omega), (K.block D (Array.getElem?_eq_some_iff.1 g.df).1 (Ne.symm h3)).trans g.df⟩
theorem five (W : World) (rb : Nat) (v0 v1 v2 v3 v4 : Value) : Keeps (fun k => k = rb) W (((((W.setCell ⟨rb, 0, none⟩ v0).setCell ⟨rb, 1, none⟩ v1).setCell ⟨rb, 2, none⟩ v2).setCell ⟨rb, 3, none⟩ v3).setCell ⟨rb, 4, none⟩ v4) ∧
    ∀ t a0 a1 a2 a3 a4, Cells W rb t [a0, a1, a2, a3, a4] → Cells (((((W.setCell ⟨rb, 0, none⟩ v0).setCell ⟨rb, 1, none⟩ v1).setCell ⟨rb, 2, none⟩ v2).setCell ⟨rb, 3, none⟩ v3).setCell ⟨rb, 4, none⟩ v4) rb t [v0, v1, v2, v3, v4] := by
  refine ⟨?_, fun t a0 a1 a2 a3 a4 h => ?_⟩
  · have k1 : Keeps (fun k => k = rb) W (W.setCell ⟨rb, 0, none⟩ v0) := (Keeps.refl _ _).setCell _ _ (fun _ => rfl)
    generalize W.setCell ⟨rb, 0, none⟩ v0 = W1 at k1 ⊢
    have k2 : Keeps (fun k => k = rb) W (W1.setCell ⟨rb, 1, none⟩ v1) := k1.setCell _ _ (fun _ => rfl)
    generalize W1.setCell ⟨rb, 1, none⟩ v1 = W2 at k2 ⊢
    have k3 : Keeps (fun k => k = rb) W (W2.setCell ⟨rb, 2, none⟩ v2) := k2.setCell _ _ (fun _ => rfl)
    generalize W2.setCell ⟨rb, 2, none⟩ v2 = W3 at k3 ⊢
    have k4 : Keeps (fun k => k = rb) W (W3.setCell ⟨rb, 3, none⟩ v3) := k3.setCell _ _ (fun _ => rfl)
    generalize W3.setCell ⟨rb, 3, none⟩ v3 = W4 at k4 ⊢
    exact k4.setCell _ _ (fun _ => rfl)
  · have h1 : Cells (W.setCell ⟨rb, 0, none⟩ v0) rb t [v0, a1, a2, a3, a4] := h.setCell 0 v0
    generalize W.setCell ⟨rb, 0, none⟩ v0 = W1 at h1 ⊢
    have h2 : Cells (W1.setCell ⟨rb, 1, none⟩ v1) rb t [v0, v1, a2, a3, a4] := h1.setCell 1 v1
    generalize W1.setCell ⟨rb, 1, none⟩ v1 = W2 at h2 ⊢
    have h3 : Cells (W2.setCell ⟨rb, 2, none⟩ v2) rb t [v0, v1, v2, a3, a4] := h2.setCell 2 v2
    generalize W2.setCell ⟨rb, 2, none⟩ v2 = W3 at h3 ⊢
    have h4 : Cells (W3.setCell ⟨rb, 3, none⟩ v3) rb t [v0, v1, v2, v3, a4] := h3.setCell 3 v3
    generalize W3.setCell ⟨rb, 3, none⟩ v3 = W4 at h4 ⊢
    exact h4.setCell 4 v4
def HdOk (h : Tp.Hd) : Prop := h.v ≤ 255 ∧ h.t ≤ 255 ∧ h.f ≤ 65535
theorem tyU_le (x : List UInt8) : Tp.tyU x ≤ 3 := by unfold Tp.tyU; (repeat' split) <;> omega
theorem flU_le (x : List UInt8) : Tp.flU x ≤ 8 := by unfold Tp.flU; (repeat' split) <;> omega
theorem or_le8 {a b : Nat} (ha : a ≤ 255) (hb : b ≤ 255) : a ||| b ≤ 255 := by
  have := Nat.or_lt_two_pow (n := 8) (x := a) (y := b) (by omega) (by omega); omega
theorem or_le16 {a b : Nat} (ha : a ≤ 65535) (hb : b ≤ 65535) : a ||| b ≤ 65535 := by
  have := Nat.or_lt_two_pow (n := 16) (x := a) (y := b) (by omega) (by omega); omega
end
theorem wpIn_region_plain {P : Program} {ops : Array Oper} {Q : Exit → Act → World → Prop} {l n id : Nat} {a : Act} {w : World} (hm : P.follows .mixedOrders = true) (hc : ops.all notDefer = true)
    (h : wpAny P .any ops (Only Q) ops.size (Array.replicate ops.size false) a w.drew) : (Code.region id ops true).wpIn (Fence.wide.inRound l) n P Q a w :=
  wpIn_mono (wpIn_region_any hm (wpAnyIn_of_plain (calm_of hc) only_lets _ _ _ _ h)) (fun e _ _ hx => by cases e <;> first | exact hx | exact hx.elim)
set_option maxRecDepth 20000 in
set_option maxHeartbeats 8000000 in
theorem guess_at (w : World) {x0 : List UInt8} {ws : List (List UInt8)} {hf : Tp.Hd} (hnb : ∀ y ∈ x0 :: ws, (32 : UInt8) ∉ y) (hl : (Wd.jn (x0 :: ws)).length ≤ 100000) (hr : Tp.gRun [] ⟨0, 0, 0, 0, 0⟩ (x0 :: ws) = some hf) :
    Calls Tryz.prog 28 #[.string (str (Wd.jn (x0 :: ws)))] w fun e w' => e = .returned (.agg (hcl hf).toArray) ∧ Aside (Below w.heap.size w w') := by
  refine (callsIn_wide (n := 9)).1 ?_
  refine callsIn_of_wp_marks Tryz.func28 rfl trivial ?_ rfl
  simp only [Tryz.ntmps28, List.size_toArray, List.length_cons, List.length_nil, Nat.reduceAdd, Nat.reduceSub, Array.replicate_succ, Array.replicate_zero, List.push_toArray, List.append_toArray, List.nil_append, List.cons_append]
  have SP := fun W => splitSeqP_at W (Wd.jn (x0 :: ws)) 32
  have SJ := Tp.spU_jn hnb
  generalize Wd.jn (x0 :: ws) = T at SP SJ hl ⊢
  generalize x0 :: ws = L at SJ hr hnb
  have HL := Aside.mk hl
  have HR := Aside.mk hr
  clear hl hr hnb
  have SP := Aside.mk SP
  refine wpIn_wide.2 ?_
  go_upto_region 3 with fail
  rw [show (⟨#[]⟩ : ByteArray) = str [] from rfl]
  obtain ⟨w1, hw1⟩ : ∃ w1, (((w.alloc (.cells #[.int .u8 0, .int .u8 0, .int .u16 0, .int .u32 0, .int .u32 0] 31)).alloc (.cells #[.int .u8 0, .int .u8 0, .int .u16 0, .int .u32 0, .int .u32 0] 31)).alloc (.cells #[.string (str [])] 9)) = w1 := ⟨_, rfl⟩
  obtain ⟨rb, hrb⟩ : ∃ rb, w.heap.size = rb := ⟨_, rfl⟩
  have HRB := Aside.mk hrb
  have X1 : Aside (Cells w1 (rb + 1) 31 (hcl ⟨0, 0, 0, 0, 0⟩) ∧ Cells w1 (rb + 1 + 1) 9 [.string (str [])] ∧ Cells w1 rb 31 hc0 ∧ Below w.heap.size w w1 ∧ w1.heap.size = rb + 3) := ⟨by
    have C1 := Cells.new w 31 hc0
    have C2 := Cells.new (w.alloc (.cells hc0.toArray 31)) 31 hc0
    have C3 := Cells.new ((w.alloc (.cells hc0.toArray 31)).alloc (.cells hc0.toArray 31)) 9 [.string (str [])]
    rw [World.size_alloc] at C2
    rw [World.size_alloc, World.size_alloc] at C3
    rw [← hw1, ← hrb]
    exact ⟨C2.later (S := Nowhere) ((Keeps.refl _ _).alloc _) (fun x => x), C3, C1.later (S := Nowhere) (((Keeps.refl _ _).alloc _).alloc _) (fun x => x), ((alloc_below _ _).trans ((alloc_below _ _).mono (by simp))).trans ((alloc_below _ _).mono (by simp; omega)), by simp⟩⟩
  rw [hw1, hrb]
  clear hw1
  have SP1 := Aside.mk (SP.it w1)
  go_wp2_with (first | (go_at_call 22; refine SP1.it.mono ?_; rintro e w2 ⟨b, rfl, X2⟩) | fail)
  have HB2 := Aside.mk X2.it.1
  have SW2 := Aside.mk X2.it.2.1
  have K2 := Aside.mk X2.it.2.2
  have hbl := SW2.it.k.lt
  have hsz := X1.it.2.2.2.2
  have hb1 := HB2.it
  refine (wpIn_wide (n := 9)).1 ?_
  refine range_outer2 (b := b) (K := fun k => k = b ∨ k = b + 1 ∨ k = b + 1 + 1) (L := L) (encs := encT) (Wk := fun W => SplW W b T 32) (gf := 62) (lb := itS b) rfl (enters_of Tryz.func62 (by kernel_rfl) rfl) (by have := split_hands 8 b T 32 (by have := HL.it; omega); rw [SJ] at this; exact this) (fun _ => rfl)
    (fun pre W => ∃ h a, Gw w (rb + 1) (rb + 1 + 1) rb w2.heap.size h a W ∧ HdOk h ∧ ∀ rest, Tp.gRun [] ⟨0, 0, 0, 0, 0⟩ (pre ++ rest) = Tp.gRun a h rest)
    (fun _ _ _ => False) ?h0 ?hq ?hw (by omega) (fun k hk => by omega) ?hp (fun _ _ _ _ _ h _ => h) ?a1 ?assign ?body ?done (fun _ _ _ _ h => h.elim)
  case h0 =>
    intro r
    have k3 : Keeps Nowhere w1 ((w2.alloc (.deferred (some []))).alloc (.loop r)) := (K2.it.alloc _).alloc _
    refine ⟨⟨0, 0, 0, 0, 0⟩, [], ⟨X1.it.1.later k3 (fun x => x), X1.it.2.1.later k3 (fun x => x), X1.it.2.2.1.later k3 (fun x => x), X1.it.2.2.2.1.trans (k3.bel.mono X1.it.2.2.2.1.size), ?_⟩, by unfold HdOk; decide, fun rest => rfl⟩
    have h1 := World.alloc_heap_new w2 (.deferred (some []))
    exact (((Keeps.refl Nowhere _).alloc (.loop r)).block _ (Array.getElem?_eq_some_iff.1 h1).1 (fun x => x)).trans h1
  case hq =>
    rintro pre A B ⟨h, a, g, ho, hg⟩ hk
    exact ⟨h, a, g.later hk (by omega) (by omega) (by omega) (by omega) (fun k e _ => by have := HRB.it; omega), ho, hg⟩
  case hw =>
    intro r
    have k3 : Keeps Nowhere w2 ((w2.alloc (.deferred (some []))).alloc (.loop r)) := ((Keeps.refl _ _).alloc _).alloc _
    exact ⟨SW2.it.s.later k3 (fun x => x), SW2.it.c.later k3 (fun x => x), SW2.it.k.later k3 (fun x => x)⟩
  case hp =>
    rintro pre A r r' ⟨h, a, g, ho, hg⟩ hl
    refine ⟨h, a, g.later (putObj_keepsT A (w2.heap.size + 1) (.loop r')) (by omega) (by omega) (by omega) (by omega) (fun k e _ => by have := HRB.it; omega), ho, hg⟩
  case assign =>
    intro x W K hK
    gi_wp2
    exact hK
  case body =>
    rintro pre x W rec ⟨h, a, g, ho, hg⟩ hpre hx hrec
    have e0 : w2.heap.size ≠ rb := by omega
    have e1 : w2.heap.size ≠ rb + 1 := by omega
    have e2 : w2.heap.size ≠ rb + 1 + 1 := by omega
    have e3 : w.heap.size ≤ rb := by rw [HRB.it]; exact Nat.le_refl _
    obtain ⟨rs, hrs⟩ : ∃ rs, L = pre ++ x :: rs := by
      obtain ⟨t, rfl⟩ := hpre
      rw [List.getElem?_append_right (Nat.le_refl _), Nat.sub_self] at hx
      cases t with
      | nil => simp at hx
      | cons y t =>
        simp only [List.getElem?_cons_zero, Option.some.injEq] at hx
        subst hx
        exact ⟨t, rfl⟩
    have hxl : x.length ≤ 100000 := by
      have := HL.it
      have h2 := Tp.spU_len (c := 32) (s := T) (x := x) (by rw [SJ, hrs]; simp)
      omega
    have hst : ∃ h', Tp.gStep a h x = some h' := by
      have h1 := HR.it
      rw [hrs, hg (x :: rs), Tp.gRun] at h1
      cases hq : Tp.gStep a h x with
      | none => rw [hq] at h1; cases h1
      | some h' => exact ⟨h', rfl⟩
    obtain ⟨h', hst⟩ := hst
    have hg' : Aside (∀ rest, Tp.gRun [] ⟨0, 0, 0, 0, 0⟩ ((pre ++ [x]) ++ rest) = Tp.gRun x h' rest) := ⟨fun rest => by
      rw [List.append_assoc, List.singleton_append, hg (x :: rest), Tp.gRun, hst]; rfl⟩
    have G := Aside.mk g
    have HO := Aside.mk ho
    have HREC := Aside.mk hrec
    have HXL := Aside.mk hxl
    have ca : W.cell? ⟨rb + 1 + 1, 0, none⟩ = some (.string (str a)) := by rw [g.ac.cell]; rfl
    have b1 := str_beq a Tp.kTy
    have b2 := str_beq a Tp.kVe
    have b3 := str_beq a Tp.kFl
    have b4 := str_beq a Tp.kSt
    have b5 := str_beq a Tp.kLe
    unfold Tp.gStep at hst
    clear hrs hg g ho hx hpre hrec hxl
    by_cases a1 : a = Tp.kTy
    · rw [if_pos a1] at hst
      rw [decide_eq_true a1] at b1
      obtain ⟨u, hu, rfl⟩ := Option.map_eq_some_iff.1 hst
      have N := Aside.mk (number8 W hu (by have := HXL.it; omega))
      have hub := numU_le hu
      have hub2 : (u : Int) ≤ 255 := by omega
      clear hst a1 hu b2 b3 b4 b5
      generalize str a = Sa at b1 ca
      generalize hSx : str x = Sx at N
      gi_wp2_with fail
      refine ⟨trivial, CallsIn.inRound _ (callsIn_wide.2 (N.it.mono ?_))⟩
      rintro e W2 ⟨rfl, B2⟩
      have G2 := Aside.mk (G.it.quiet (Keeps.ofBelow (S := Nowhere) B2.it))
      have f1 := G2.it.hc.frozen 1
      have c1 : W2.cell? ⟨rb + 1, 1, none⟩ = some (.int .u8 h.t) := by rw [G2.it.hc.cell]; rfl
      have f0 := G2.it.ac.frozen 0
      have c0 : W2.cell? ⟨rb + 1 + 1, 0, none⟩ = some (.string (str a)) := by rw [G2.it.ac.cell]; rfl
      gi_wp2_with fail
      have KE : Keeps (fun k => k = rb + 1 ∨ k = rb + 1 + 1) W ((W2.setCell ⟨rb + 1, 1, none⟩ (.int .u8 u)).setCell ⟨rb + 1 + 1, 0, none⟩ (.string Sx)) := (((Keeps.ofBelow (S := fun k => k = rb + 1 ∨ k = rb + 1 + 1) B2.it).setCell _ _ (fun _ => .inl rfl)).setCell _ _ (fun _ => .inr rfl))
      have GF := (G2.it.setH (i := 1) (v := (.int .u8 u)) (h' := { h with t := u }) rfl (by omega) (by omega) (by omega) (by omega)).setA (x := x) (by omega) (by omega) (by omega) (by omega)
      rw [hSx] at GF
      have LT := (Array.getElem?_eq_some_iff.1 HREC.it).1
      exact ⟨⟨KE.block _ LT (by omega), fun k hk => KE.block k (by omega) (by omega)⟩, _, x, GF, ⟨HO.it.1, by omega, HO.it.2.2⟩, hg'.it⟩
    rw [if_neg a1] at hst
    rw [decide_eq_false a1] at b1
    by_cases a2 : a = Tp.kVe
    · rw [if_pos a2] at hst
      rw [decide_eq_true a2] at b2
      obtain ⟨u, hu, rfl⟩ := Option.map_eq_some_iff.1 hst
      have N := Aside.mk (number8 W hu (by have := HXL.it; omega))
      have hub := numU_le hu
      have hub2 : (u : Int) ≤ 255 := by omega
      clear hst a2 hu b3 b4 b5
      generalize str a = Sa at b1 b2 ca
      generalize hSx : str x = Sx at N
      gi_wp2_with fail
      refine ⟨trivial, CallsIn.inRound _ (callsIn_wide.2 (N.it.mono ?_))⟩
      rintro e W2 ⟨rfl, B2⟩
      have G2 := Aside.mk (G.it.quiet (Keeps.ofBelow (S := Nowhere) B2.it))
      have f1 := G2.it.hc.frozen 0
      have c1 : W2.cell? ⟨rb + 1, 0, none⟩ = some (.int .u8 h.v) := by rw [G2.it.hc.cell]; rfl
      have f0 := G2.it.ac.frozen 0
      have c0 : W2.cell? ⟨rb + 1 + 1, 0, none⟩ = some (.string (str a)) := by rw [G2.it.ac.cell]; rfl
      gi_wp2_with fail
      have KE : Keeps (fun k => k = rb + 1 ∨ k = rb + 1 + 1) W ((W2.setCell ⟨rb + 1, 0, none⟩ (.int .u8 u)).setCell ⟨rb + 1 + 1, 0, none⟩ (.string Sx)) := (((Keeps.ofBelow (S := fun k => k = rb + 1 ∨ k = rb + 1 + 1) B2.it).setCell _ _ (fun _ => .inl rfl)).setCell _ _ (fun _ => .inr rfl))
      have GF := (G2.it.setH (i := 0) (v := (.int .u8 u)) (h' := { h with v := u }) rfl (by omega) (by omega) (by omega) (by omega)).setA (x := x) (by omega) (by omega) (by omega) (by omega)
      rw [hSx] at GF
      have LT := (Array.getElem?_eq_some_iff.1 HREC.it).1
      exact ⟨⟨KE.block _ LT (by omega), fun k hk => KE.block k (by omega) (by omega)⟩, _, x, GF, ⟨by omega, HO.it.2.1, HO.it.2.2⟩, hg'.it⟩
    rw [if_neg a2] at hst
    rw [decide_eq_false a2] at b2
    by_cases a3 : a = Tp.kFl
    · rw [if_pos a3] at hst
      rw [decide_eq_true a3] at b3
      obtain ⟨u, hu, rfl⟩ := Option.map_eq_some_iff.1 hst
      have N : Aside (∀ W', Calls Tryz.prog 51 #[.string (str x), .int .i64 16] W' fun e w' => e = .returned (.int .u32 u) ∧ Aside (Below W'.heap.size W' w')) := ⟨fun W' => number16 W' hu (by have := HXL.it; omega)⟩
      have hub := numU_le hu
      have hub2 : (u : Int) ≤ 65535 := by omega
      clear hst a3 hu b4 b5
      generalize str a = Sa at b1 b2 b3 ca
      generalize hSx : str x = Sx at N
      gi_wp2_with fail
      have GD := Aside.mk (G.it.quiet ((Keeps.refl Nowhere W).drew))
      have cf : W.drew.cell? ⟨rb + 1, 2, none⟩ = some (.int .u16 h.f) := by rw [GD.it.hc.cell]; rfl
      refine wpIn_region_plain (by kernel_rfl) (by kernel_rfl) ?_
      refine wpAny_take (i := 0) (v := ?_) rfl (by kernel_rfl) (by kernel_rfl) (by kernel_rfl) (fun _ _ _ h => h) (Or.inl ⟨by rfl, ?_⟩) ?_
      rotate_left 1
      · intro w; go_simp
        with_reducible rfl
      simp only [List.getElem_toArray, List.getElem_cons_zero, Act.put, List.setIfInBounds_toArray, List.set_cons_zero, List.set_cons_succ]
      refine wpAny_take (i := 2) (v := ?_) rfl (by kernel_rfl) (by kernel_rfl) (by kernel_rfl) (fun _ _ _ h => h) (Or.inl ⟨by rfl, ?_⟩) ?_
      rotate_left 1
      · intro w; go_simp
        with_reducible rfl
      simp only [List.getElem_toArray, List.getElem_cons_zero, List.getElem_cons_succ, Act.put, List.setIfInBounds_toArray, List.set_cons_zero, List.set_cons_succ]
      refine wpAny_ready (rs := [1, 3]) (by kernel_rfl) (by simp) ?_
      refine AllReady.cons rfl (fun K hK => ?_) ?_
      · simp only [List.getElem_toArray, List.getElem_cons_zero, List.getElem_cons_succ]
        go_simp
        refine hK _ _ ?_; clear hK K
        refine wpAny_ready (rs := [3]) (by kernel_rfl) (by simp) ?_
        refine AllReady.cons rfl (fun K hK => ?_) AllReady.nil
        simp only [List.getElem_toArray, List.getElem_cons_zero, List.getElem_cons_succ]
        go_simp
        refine (N.it _).mono ?_
        rintro e W2 ⟨rfl, B2⟩
        have G2 := Aside.mk (GD.it.quiet (Keeps.ofBelow (S := Nowhere) B2.it))
        have f1 := G2.it.hc.frozen 2
        have c1 : W2.cell? ⟨rb + 1, 2, none⟩ = some (.int .u16 h.f) := by rw [G2.it.hc.cell]; rfl
        have f0 := G2.it.ac.frozen 0
        have c0 : W2.cell? ⟨rb + 1 + 1, 0, none⟩ = some (.string (str a)) := by rw [G2.it.ac.cell]; rfl
        refine hK _ _ ?_; clear hK K
        refine wpAny_take (i := 4) (v := ?_) rfl (by kernel_rfl) (by kernel_rfl) (by kernel_rfl) (fun _ _ _ h => h) (Or.inl ⟨by rfl, ?_⟩) ?_
        rotate_left 1
        · intro w; go_simp
          with_reducible rfl
        simp only [List.getElem_toArray, List.getElem_cons_zero, List.getElem_cons_succ, Act.put, List.setIfInBounds_toArray, List.set_cons_zero, List.set_cons_succ]
        refine wpAny_take (i := 5) (v := ?_) rfl (by kernel_rfl) (by kernel_rfl) (by kernel_rfl) (fun _ _ _ h => h) (Or.inl ⟨by rfl, ?_⟩) ?_
        rotate_left 1
        · intro w; go_simp
          with_reducible rfl
        simp only [List.getElem_toArray, List.getElem_cons_zero, List.getElem_cons_succ, Act.put, List.setIfInBounds_toArray, List.set_cons_zero, List.set_cons_succ]
        refine wpAny_take (i := 6) (v := ?_) rfl (by kernel_rfl) (by kernel_rfl) (by kernel_rfl) (fun _ _ _ h => h) (Or.inl ⟨by rfl, ?_⟩) ?_
        rotate_left 1
        · intro w; go_simp
          with_reducible rfl
        simp only [List.getElem_toArray, List.getElem_cons_zero, List.getElem_cons_succ, Act.put, List.setIfInBounds_toArray, List.set_cons_zero, List.set_cons_succ]
        refine wpAny_ready (rs := [7]) (by kernel_rfl) (by simp) ?_
        refine AllReady.cons rfl (fun K hK => ?_) AllReady.nil
        simp only [List.getElem_toArray, List.getElem_cons_zero, List.getElem_cons_succ]
        go_simp
        refine hK _ _ ?_; clear hK K
        refine wpAny_done (by kernel_rfl) ?_ _
        dsimp only [Only]
        gi_wp2_with fail
        have B2 : Aside (Below W.heap.size W W2) := ⟨((Below.refl _ W).drew).trans B2.it⟩
        have EO : bits .or .u16 (h.f : Int) (u : Int) = ((h.f ||| u : Nat) : Int) := u16_or_nat _ _ (by have := HO.it.2.2; omega) (by omega)
        have KE : Keeps (fun k => k = rb + 1 ∨ k = rb + 1 + 1) W ((W2.setCell ⟨rb + 1, 2, none⟩ (.int .u16 (bits .or .u16 h.f u))).setCell ⟨rb + 1 + 1, 0, none⟩ (.string Sx)) := (((Keeps.ofBelow (S := fun k => k = rb + 1 ∨ k = rb + 1 + 1) B2.it).setCell _ _ (fun _ => .inl rfl)).setCell _ _ (fun _ => .inr rfl))
        have GF := (G2.it.setH (i := 2) (v := (.int .u16 (bits .or .u16 h.f u))) (h' := { h with f := h.f ||| u }) (by rw [EO]; rfl) (by omega) (by omega) (by omega) (by omega)).setA (x := x) (by omega) (by omega) (by omega) (by omega)
        rw [hSx] at GF
        have LT := (Array.getElem?_eq_some_iff.1 HREC.it).1
        exact ⟨⟨KE.block _ LT (by omega), fun k hk => KE.block k (by omega) (by omega)⟩, _, x, GF, ⟨HO.it.1, HO.it.2.1, or_le16 HO.it.2.2 (by omega)⟩, hg'.it⟩
      refine AllReady.cons rfl (fun K hK => ?_) AllReady.nil
      simp only [List.getElem_toArray, List.getElem_cons_zero, List.getElem_cons_succ]
      go_simp
      refine (N.it _).mono ?_
      rintro e W2 ⟨rfl, B2⟩
      have G2 := Aside.mk (GD.it.quiet (Keeps.ofBelow (S := Nowhere) B2.it))
      have f1 := G2.it.hc.frozen 2
      have c1 : W2.cell? ⟨rb + 1, 2, none⟩ = some (.int .u16 h.f) := by rw [G2.it.hc.cell]; rfl
      have f0 := G2.it.ac.frozen 0
      have c0 : W2.cell? ⟨rb + 1 + 1, 0, none⟩ = some (.string (str a)) := by rw [G2.it.ac.cell]; rfl
      refine hK _ _ ?_; clear hK K
      refine wpAny_take (i := 4) (v := ?_) rfl (by kernel_rfl) (by kernel_rfl) (by kernel_rfl) (fun _ _ _ h => h) (Or.inl ⟨by rfl, ?_⟩) ?_
      rotate_left 1
      · intro w; go_simp
        with_reducible rfl
      simp only [List.getElem_toArray, List.getElem_cons_zero, List.getElem_cons_succ, Act.put, List.setIfInBounds_toArray, List.set_cons_zero, List.set_cons_succ]
      refine wpAny_ready (rs := [1]) (by kernel_rfl) (by simp) ?_
      refine AllReady.cons rfl (fun K hK => ?_) AllReady.nil
      simp only [List.getElem_toArray, List.getElem_cons_zero, List.getElem_cons_succ]
      go_simp
      refine hK _ _ ?_; clear hK K
      refine wpAny_take (i := 5) (v := ?_) rfl (by kernel_rfl) (by kernel_rfl) (by kernel_rfl) (fun _ _ _ h => h) (Or.inl ⟨by rfl, ?_⟩) ?_
      rotate_left 1
      · intro w; go_simp
        with_reducible rfl
      simp only [List.getElem_toArray, List.getElem_cons_zero, List.getElem_cons_succ, Act.put, List.setIfInBounds_toArray, List.set_cons_zero, List.set_cons_succ]
      refine wpAny_take (i := 6) (v := ?_) rfl (by kernel_rfl) (by kernel_rfl) (by kernel_rfl) (fun _ _ _ h => h) (Or.inl ⟨by rfl, ?_⟩) ?_
      rotate_left 1
      · intro w; go_simp
        with_reducible rfl
      simp only [List.getElem_toArray, List.getElem_cons_zero, List.getElem_cons_succ, Act.put, List.setIfInBounds_toArray, List.set_cons_zero, List.set_cons_succ]
      refine wpAny_ready (rs := [7]) (by kernel_rfl) (by simp) ?_
      refine AllReady.cons rfl (fun K hK => ?_) AllReady.nil
      simp only [List.getElem_toArray, List.getElem_cons_zero, List.getElem_cons_succ]
      go_simp
      refine hK _ _ ?_; clear hK K
      refine wpAny_done (by kernel_rfl) ?_ _
      dsimp only [Only]
      gi_wp2_with fail
      have B2 : Aside (Below W.heap.size W W2) := ⟨((Below.refl _ W).drew).trans B2.it⟩
      have EO : bits .or .u16 (h.f : Int) (u : Int) = ((h.f ||| u : Nat) : Int) := u16_or_nat _ _ (by have := HO.it.2.2; omega) (by omega)
      have KE : Keeps (fun k => k = rb + 1 ∨ k = rb + 1 + 1) W ((W2.setCell ⟨rb + 1, 2, none⟩ (.int .u16 (bits .or .u16 h.f u))).setCell ⟨rb + 1 + 1, 0, none⟩ (.string Sx)) := (((Keeps.ofBelow (S := fun k => k = rb + 1 ∨ k = rb + 1 + 1) B2.it).setCell _ _ (fun _ => .inl rfl)).setCell _ _ (fun _ => .inr rfl))
      have GF := (G2.it.setH (i := 2) (v := (.int .u16 (bits .or .u16 h.f u))) (h' := { h with f := h.f ||| u }) (by rw [EO]; rfl) (by omega) (by omega) (by omega) (by omega)).setA (x := x) (by omega) (by omega) (by omega) (by omega)
      rw [hSx] at GF
      have LT := (Array.getElem?_eq_some_iff.1 HREC.it).1
      exact ⟨⟨KE.block _ LT (by omega), fun k hk => KE.block k (by omega) (by omega)⟩, _, x, GF, ⟨HO.it.1, HO.it.2.1, or_le16 HO.it.2.2 (by omega)⟩, hg'.it⟩
    rw [if_neg a3] at hst
    rw [decide_eq_false a3] at b3
    by_cases a4 : a = Tp.kSt
    · rw [if_pos a4] at hst
      rw [decide_eq_true a4] at b4
      obtain ⟨u, hu, rfl⟩ := Option.map_eq_some_iff.1 hst
      have N := Aside.mk (number32 W hu (by have := HXL.it; omega))
      have hub := numU_le hu
      have hub2 : (u : Int) ≤ 4294967295 := by omega
      clear hst a4 hu b5
      generalize str a = Sa at b1 b2 b3 b4 ca
      generalize hSx : str x = Sx at N
      gi_wp2_with fail
      refine ⟨trivial, CallsIn.inRound _ (callsIn_wide.2 (N.it.mono ?_))⟩
      rintro e W2 ⟨rfl, B2⟩
      have G2 := Aside.mk (G.it.quiet (Keeps.ofBelow (S := Nowhere) B2.it))
      have f1 := G2.it.hc.frozen 3
      have c1 : W2.cell? ⟨rb + 1, 3, none⟩ = some (.int .u32 h.s) := by rw [G2.it.hc.cell]; rfl
      have f0 := G2.it.ac.frozen 0
      have c0 : W2.cell? ⟨rb + 1 + 1, 0, none⟩ = some (.string (str a)) := by rw [G2.it.ac.cell]; rfl
      gi_wp2_with fail
      have KE : Keeps (fun k => k = rb + 1 ∨ k = rb + 1 + 1) W ((W2.setCell ⟨rb + 1, 3, none⟩ (.int .u32 u)).setCell ⟨rb + 1 + 1, 0, none⟩ (.string Sx)) := (((Keeps.ofBelow (S := fun k => k = rb + 1 ∨ k = rb + 1 + 1) B2.it).setCell _ _ (fun _ => .inl rfl)).setCell _ _ (fun _ => .inr rfl))
      have GF := (G2.it.setH (i := 3) (v := (.int .u32 u)) (h' := { h with s := u }) rfl (by omega) (by omega) (by omega) (by omega)).setA (x := x) (by omega) (by omega) (by omega) (by omega)
      rw [hSx] at GF
      have LT := (Array.getElem?_eq_some_iff.1 HREC.it).1
      exact ⟨⟨KE.block _ LT (by omega), fun k hk => KE.block k (by omega) (by omega)⟩, _, x, GF, HO.it, hg'.it⟩
    rw [if_neg a4] at hst
    rw [decide_eq_false a4] at b4
    by_cases a5 : a = Tp.kLe
    · rw [if_pos a5] at hst
      rw [decide_eq_true a5] at b5
      obtain ⟨u, hu, rfl⟩ := Option.map_eq_some_iff.1 hst
      have N := Aside.mk (number32 W hu (by have := HXL.it; omega))
      have hub := numU_le hu
      have hub2 : (u : Int) ≤ 4294967295 := by omega
      clear hst a5 hu 
      generalize str a = Sa at b1 b2 b3 b4 b5 ca
      generalize hSx : str x = Sx at N
      gi_wp2_with fail
      refine ⟨trivial, CallsIn.inRound _ (callsIn_wide.2 (N.it.mono ?_))⟩
      rintro e W2 ⟨rfl, B2⟩
      have G2 := Aside.mk (G.it.quiet (Keeps.ofBelow (S := Nowhere) B2.it))
      have f1 := G2.it.hc.frozen 4
      have c1 : W2.cell? ⟨rb + 1, 4, none⟩ = some (.int .u32 h.l) := by rw [G2.it.hc.cell]; rfl
      have f0 := G2.it.ac.frozen 0
      have c0 : W2.cell? ⟨rb + 1 + 1, 0, none⟩ = some (.string (str a)) := by rw [G2.it.ac.cell]; rfl
      gi_wp2_with fail
      have KE : Keeps (fun k => k = rb + 1 ∨ k = rb + 1 + 1) W ((W2.setCell ⟨rb + 1, 4, none⟩ (.int .u32 u)).setCell ⟨rb + 1 + 1, 0, none⟩ (.string Sx)) := (((Keeps.ofBelow (S := fun k => k = rb + 1 ∨ k = rb + 1 + 1) B2.it).setCell _ _ (fun _ => .inl rfl)).setCell _ _ (fun _ => .inr rfl))
      have GF := (G2.it.setH (i := 4) (v := (.int .u32 u)) (h' := { h with l := u }) rfl (by omega) (by omega) (by omega) (by omega)).setA (x := x) (by omega) (by omega) (by omega) (by omega)
      rw [hSx] at GF
      have LT := (Array.getElem?_eq_some_iff.1 HREC.it).1
      exact ⟨⟨KE.block _ LT (by omega), fun k hk => KE.block k (by omega) (by omega)⟩, _, x, GF, HO.it, hg'.it⟩
    rw [if_neg a5] at hst
    rw [decide_eq_false a5] at b5
    injection hst with hst
    subst hst
    generalize str a = Sa at b1 b2 b3 b4 b5 ca
    have TY : Aside (∀ W', Calls Tryz.prog 52 #[.string (str x)] W' fun e w' => e = .returned (.int .u8 (Tp.tyU x : Nat)) ∧ w' = W') := ⟨fun W' => typeOf_at W' x⟩
    have FL : Aside (∀ W', Calls Tryz.prog 53 #[.string (str x)] W' fun e w' => e = .returned (.int .u16 (Tp.flU x : Nat)) ∧ w' = W') := ⟨fun W' => flagOf_at W' x⟩
    have BT := Aside.mk (And.intro (tyU_le x) (flU_le x))
    obtain ⟨ty, hty⟩ : ∃ ty, Tp.tyU x = ty := ⟨_, rfl⟩
    obtain ⟨fl, hfl⟩ : ∃ fl, Tp.flU x = fl := ⟨_, rfl⟩
    rw [hty] at TY BT hg'
    rw [hfl] at FL BT hg'
    clear hty hfl a1 a2 a3 a4 a5
    generalize hSx : str x = Sx at TY FL
    gi_wp2_with fail
    have GD := Aside.mk (G.it.quiet ((Keeps.refl Nowhere W).drew))
    have ct : W.drew.cell? ⟨rb + 1, 1, none⟩ = some (.int .u8 h.t) := by rw [GD.it.hc.cell]; rfl
    have ft := GD.it.hc.frozen 1
    have cW : W.cell? ⟨rb + 1, 2, none⟩ = some (.int .u16 h.f) := by rw [G.it.hc.cell]; rfl
    have cT : W.cell? ⟨rb + 1, 1, none⟩ = some (.int .u8 h.t) := by rw [G.it.hc.cell]; rfl
    have fW := G.it.hc.frozen 2
    have fT := G.it.hc.frozen 1
    have fA := G.it.ac.frozen 0
    have cA : W.cell? ⟨rb + 1 + 1, 0, none⟩ = some (.string (str a)) := by rw [G.it.ac.cell]; rfl
    refine wpIn_region_plain (by kernel_rfl) (by kernel_rfl) ?_
    refine wpAny_take (i := 0) (v := ?_) rfl (by kernel_rfl) (by kernel_rfl) (by kernel_rfl) (fun _ _ _ h => h) (Or.inl ⟨by rfl, ?_⟩) ?_
    rotate_left 1
    · intro w; go_simp
      with_reducible rfl
    simp only [List.getElem_toArray, List.getElem_cons_zero, Act.put, List.setIfInBounds_toArray, List.set_cons_zero, List.set_cons_succ]
    refine wpAny_take (i := 2) (v := ?_) rfl (by kernel_rfl) (by kernel_rfl) (by kernel_rfl) (fun _ _ _ h => h) (Or.inl ⟨by rfl, ?_⟩) ?_
    rotate_left 1
    · intro w; go_simp
      with_reducible rfl
    simp only [List.getElem_toArray, List.getElem_cons_zero, List.getElem_cons_succ, Act.put, List.setIfInBounds_toArray, List.set_cons_zero, List.set_cons_succ]
    refine wpAny_ready (rs := [1, 3]) (by kernel_rfl) (by simp) ?_
    refine AllReady.cons rfl (fun K hK => ?_) ?_
    · simp only [List.getElem_toArray, List.getElem_cons_zero, List.getElem_cons_succ]
      go_simp
      refine hK _ _ ?_; clear hK K
      refine wpAny_ready (rs := [3]) (by kernel_rfl) (by simp) ?_
      refine AllReady.cons rfl (fun K hK => ?_) AllReady.nil
      simp only [List.getElem_toArray, List.getElem_cons_zero, List.getElem_cons_succ]
      go_simp
      refine (TY.it _).mono ?_
      rintro e W2 ⟨rfl, rfl⟩
      refine hK _ _ ?_; clear hK K
      refine wpAny_take (i := 4) (v := ?_) rfl (by kernel_rfl) (by kernel_rfl) (by kernel_rfl) (fun _ _ _ h => h) (Or.inl ⟨by rfl, ?_⟩) ?_
      rotate_left 1
      · intro w; go_simp
        with_reducible rfl
      simp only [List.getElem_toArray, List.getElem_cons_zero, List.getElem_cons_succ, Act.put, List.setIfInBounds_toArray, List.set_cons_zero, List.set_cons_succ]
      refine wpAny_take (i := 5) (v := ?_) rfl (by kernel_rfl) (by kernel_rfl) (by kernel_rfl) (fun _ _ _ h => h) (Or.inl ⟨by rfl, ?_⟩) ?_
      rotate_left 1
      · intro w; go_simp
        with_reducible rfl
      simp only [List.getElem_toArray, List.getElem_cons_zero, List.getElem_cons_succ, Act.put, List.setIfInBounds_toArray, List.set_cons_zero, List.set_cons_succ]
      refine wpAny_ready (rs := [6]) (by kernel_rfl) (by simp) ?_
      refine AllReady.cons rfl (fun K hK => ?_) AllReady.nil
      simp only [List.getElem_toArray, List.getElem_cons_zero, List.getElem_cons_succ]
      go_simp
      refine hK _ _ ?_; clear hK K
      refine wpAny_done (by kernel_rfl) ?_ _
      dsimp only [Only]
      gi_wp2_with fail
      refine wpIn_region_plain (by kernel_rfl) (by kernel_rfl) ?_
      refine wpAny_take (i := 0) (v := ?_) rfl (by kernel_rfl) (by kernel_rfl) (by kernel_rfl) (fun _ _ _ h => h) (Or.inl ⟨by rfl, ?_⟩) ?_
      rotate_left 1
      · intro w; go_simp
        with_reducible rfl
      simp only [List.getElem_toArray, List.getElem_cons_zero, Act.put, List.setIfInBounds_toArray, List.set_cons_zero, List.set_cons_succ]
      refine wpAny_take (i := 2) (v := ?_) rfl (by kernel_rfl) (by kernel_rfl) (by kernel_rfl) (fun _ _ _ h => h) (Or.inl ⟨by rfl, ?_⟩) ?_
      rotate_left 1
      · intro w; go_simp
        with_reducible rfl
      simp only [List.getElem_toArray, List.getElem_cons_zero, List.getElem_cons_succ, Act.put, List.setIfInBounds_toArray, List.set_cons_zero, List.set_cons_succ]
      refine wpAny_ready (rs := [1, 3]) (by kernel_rfl) (by simp) ?_
      refine AllReady.cons rfl (fun K hK => ?_) ?_
      · simp only [List.getElem_toArray, List.getElem_cons_zero, List.getElem_cons_succ]
        go_simp
        refine hK _ _ ?_; clear hK K
        refine wpAny_ready (rs := [3]) (by kernel_rfl) (by simp) ?_
        refine AllReady.cons rfl (fun K hK => ?_) AllReady.nil
        simp only [List.getElem_toArray, List.getElem_cons_zero, List.getElem_cons_succ]
        go_simp
        refine (FL.it _).mono ?_
        rintro e W3 ⟨rfl, rfl⟩
        refine hK _ _ ?_; clear hK K
        refine wpAny_take (i := 4) (v := ?_) rfl (by kernel_rfl) (by kernel_rfl) (by kernel_rfl) (fun _ _ _ h => h) (Or.inl ⟨by rfl, ?_⟩) ?_
        rotate_left 1
        · intro w; go_simp
          with_reducible rfl
        simp only [List.getElem_toArray, List.getElem_cons_zero, List.getElem_cons_succ, Act.put, List.setIfInBounds_toArray, List.set_cons_zero, List.set_cons_succ]
        refine wpAny_take (i := 5) (v := ?_) rfl (by kernel_rfl) (by kernel_rfl) (by kernel_rfl) (fun _ _ _ h => h) (Or.inl ⟨by rfl, ?_⟩) ?_
        rotate_left 1
        · intro w; go_simp
          with_reducible rfl
        simp only [List.getElem_toArray, List.getElem_cons_zero, List.getElem_cons_succ, Act.put, List.setIfInBounds_toArray, List.set_cons_zero, List.set_cons_succ]
        refine wpAny_ready (rs := [6]) (by kernel_rfl) (by simp) ?_
        refine AllReady.cons rfl (fun K hK => ?_) AllReady.nil
        simp only [List.getElem_toArray, List.getElem_cons_zero, List.getElem_cons_succ]
        go_simp
        refine hK _ _ ?_; clear hK K
        refine wpAny_done (by kernel_rfl) ?_ _
        dsimp only [Only]
        gi_wp2_with fail
        have ET : bits .or .u8 (h.t : Int) (ty : Int) = ((h.t ||| ty : Nat) : Int) := u8_or_nat _ _ (by have := HO.it.2.1; omega) (by have := BT.it; omega)
        have EF : bits .or .u16 (h.f : Int) (fl : Int) = ((h.f ||| fl : Nat) : Int) := u16_or_nat _ _ (by have := HO.it.2.2; omega) (by have := BT.it; omega)
        have KE : Keeps (fun k => k = rb + 1 ∨ k = rb + 1 + 1) W (((W.setCell ⟨rb + 1, 1, none⟩ (.int .u8 (bits .or .u8 h.t ty))).setCell ⟨rb + 1, 2, none⟩ (.int .u16 (bits .or .u16 h.f fl))).setCell ⟨rb + 1 + 1, 0, none⟩ (.string Sx)).drew.drew := ((((Keeps.refl _ W).setCell _ _ (fun _ => .inl rfl)).setCell _ _ (fun _ => .inl rfl)).setCell _ _ (fun _ => .inr rfl)).drew.drew
        have GF := (((G.it.setH (i := 1) (v := .int .u8 (bits .or .u8 h.t ty)) (h' := { h with t := h.t ||| ty }) (by rw [ET]; rfl) (by omega) (by omega) (by omega) (by omega)).setH (i := 2) (v := .int .u16 (bits .or .u16 h.f fl)) (h' := { h with t := h.t ||| ty, f := h.f ||| fl }) (by rw [EF]; rfl) (by omega) (by omega) (by omega) (by omega)).setA (x := x) (by omega) (by omega) (by omega) (by omega)).quiet ((Keeps.refl Nowhere _).drew.drew)
        rw [hSx] at GF
        have LT := (Array.getElem?_eq_some_iff.1 HREC.it).1
        exact ⟨⟨KE.block _ LT (by omega), fun k hk => KE.block k (by omega) (by omega)⟩, _, x, GF, ⟨HO.it.1, or_le8 HO.it.2.1 (by have := BT.it; omega), or_le16 HO.it.2.2 (by have := BT.it; omega)⟩, hg'.it⟩
      refine AllReady.cons rfl (fun K hK => ?_) AllReady.nil
      simp only [List.getElem_toArray, List.getElem_cons_zero, List.getElem_cons_succ]
      go_simp
      refine (FL.it _).mono ?_
      rintro e W3 ⟨rfl, rfl⟩
      refine hK _ _ ?_; clear hK K
      refine wpAny_ready (rs := [1]) (by kernel_rfl) (by simp) ?_
      refine AllReady.cons rfl (fun K hK => ?_) AllReady.nil
      simp only [List.getElem_toArray, List.getElem_cons_zero, List.getElem_cons_succ]
      go_simp
      refine hK _ _ ?_; clear hK K
      refine wpAny_take (i := 4) (v := ?_) rfl (by kernel_rfl) (by kernel_rfl) (by kernel_rfl) (fun _ _ _ h => h) (Or.inl ⟨by rfl, ?_⟩) ?_
      rotate_left 1
      · intro w; go_simp
        with_reducible rfl
      simp only [List.getElem_toArray, List.getElem_cons_zero, List.getElem_cons_succ, Act.put, List.setIfInBounds_toArray, List.set_cons_zero, List.set_cons_succ]
      refine wpAny_take (i := 5) (v := ?_) rfl (by kernel_rfl) (by kernel_rfl) (by kernel_rfl) (fun _ _ _ h => h) (Or.inl ⟨by rfl, ?_⟩) ?_
      rotate_left 1
      · intro w; go_simp
        with_reducible rfl
      simp only [List.getElem_toArray, List.getElem_cons_zero, List.getElem_cons_succ, Act.put, List.setIfInBounds_toArray, List.set_cons_zero, List.set_cons_succ]
      refine wpAny_ready (rs := [6]) (by kernel_rfl) (by simp) ?_
      refine AllReady.cons rfl (fun K hK => ?_) AllReady.nil
      simp only [List.getElem_toArray, List.getElem_cons_zero, List.getElem_cons_succ]
      go_simp
      refine hK _ _ ?_; clear hK K
      refine wpAny_done (by kernel_rfl) ?_ _
      dsimp only [Only]
      gi_wp2_with fail
      have ET : bits .or .u8 (h.t : Int) (ty : Int) = ((h.t ||| ty : Nat) : Int) := u8_or_nat _ _ (by have := HO.it.2.1; omega) (by have := BT.it; omega)
      have EF : bits .or .u16 (h.f : Int) (fl : Int) = ((h.f ||| fl : Nat) : Int) := u16_or_nat _ _ (by have := HO.it.2.2; omega) (by have := BT.it; omega)
      have KE : Keeps (fun k => k = rb + 1 ∨ k = rb + 1 + 1) W (((W.setCell ⟨rb + 1, 1, none⟩ (.int .u8 (bits .or .u8 h.t ty))).setCell ⟨rb + 1, 2, none⟩ (.int .u16 (bits .or .u16 h.f fl))).setCell ⟨rb + 1 + 1, 0, none⟩ (.string Sx)).drew.drew := ((((Keeps.refl _ W).setCell _ _ (fun _ => .inl rfl)).setCell _ _ (fun _ => .inl rfl)).setCell _ _ (fun _ => .inr rfl)).drew.drew
      have GF := (((G.it.setH (i := 1) (v := .int .u8 (bits .or .u8 h.t ty)) (h' := { h with t := h.t ||| ty }) (by rw [ET]; rfl) (by omega) (by omega) (by omega) (by omega)).setH (i := 2) (v := .int .u16 (bits .or .u16 h.f fl)) (h' := { h with t := h.t ||| ty, f := h.f ||| fl }) (by rw [EF]; rfl) (by omega) (by omega) (by omega) (by omega)).setA (x := x) (by omega) (by omega) (by omega) (by omega)).quiet ((Keeps.refl Nowhere _).drew.drew)
      rw [hSx] at GF
      have LT := (Array.getElem?_eq_some_iff.1 HREC.it).1
      exact ⟨⟨KE.block _ LT (by omega), fun k hk => KE.block k (by omega) (by omega)⟩, _, x, GF, ⟨HO.it.1, or_le8 HO.it.2.1 (by have := BT.it; omega), or_le16 HO.it.2.2 (by have := BT.it; omega)⟩, hg'.it⟩
    refine AllReady.cons rfl (fun K hK => ?_) AllReady.nil
    simp only [List.getElem_toArray, List.getElem_cons_zero, List.getElem_cons_succ]
    go_simp
    refine (TY.it _).mono ?_
    rintro e W2 ⟨rfl, rfl⟩
    refine hK _ _ ?_; clear hK K
    refine wpAny_ready (rs := [1]) (by kernel_rfl) (by simp) ?_
    refine AllReady.cons rfl (fun K hK => ?_) AllReady.nil
    simp only [List.getElem_toArray, List.getElem_cons_zero, List.getElem_cons_succ]
    go_simp
    refine hK _ _ ?_; clear hK K
    refine wpAny_take (i := 4) (v := ?_) rfl (by kernel_rfl) (by kernel_rfl) (by kernel_rfl) (fun _ _ _ h => h) (Or.inl ⟨by rfl, ?_⟩) ?_
    rotate_left 1
    · intro w; go_simp
      with_reducible rfl
    simp only [List.getElem_toArray, List.getElem_cons_zero, List.getElem_cons_succ, Act.put, List.setIfInBounds_toArray, List.set_cons_zero, List.set_cons_succ]
    refine wpAny_take (i := 5) (v := ?_) rfl (by kernel_rfl) (by kernel_rfl) (by kernel_rfl) (fun _ _ _ h => h) (Or.inl ⟨by rfl, ?_⟩) ?_
    rotate_left 1
    · intro w; go_simp
      with_reducible rfl
    simp only [List.getElem_toArray, List.getElem_cons_zero, List.getElem_cons_succ, Act.put, List.setIfInBounds_toArray, List.set_cons_zero, List.set_cons_succ]
    refine wpAny_ready (rs := [6]) (by kernel_rfl) (by simp) ?_
    refine AllReady.cons rfl (fun K hK => ?_) AllReady.nil
    simp only [List.getElem_toArray, List.getElem_cons_zero, List.getElem_cons_succ]
    go_simp
    refine hK _ _ ?_; clear hK K
    refine wpAny_done (by kernel_rfl) ?_ _
    dsimp only [Only]
    gi_wp2_with fail
    refine wpIn_region_plain (by kernel_rfl) (by kernel_rfl) ?_
    refine wpAny_take (i := 0) (v := ?_) rfl (by kernel_rfl) (by kernel_rfl) (by kernel_rfl) (fun _ _ _ h => h) (Or.inl ⟨by rfl, ?_⟩) ?_
    rotate_left 1
    · intro w; go_simp
      with_reducible rfl
    simp only [List.getElem_toArray, List.getElem_cons_zero, Act.put, List.setIfInBounds_toArray, List.set_cons_zero, List.set_cons_succ]
    refine wpAny_take (i := 2) (v := ?_) rfl (by kernel_rfl) (by kernel_rfl) (by kernel_rfl) (fun _ _ _ h => h) (Or.inl ⟨by rfl, ?_⟩) ?_
    rotate_left 1
    · intro w; go_simp
      with_reducible rfl
    simp only [List.getElem_toArray, List.getElem_cons_zero, List.getElem_cons_succ, Act.put, List.setIfInBounds_toArray, List.set_cons_zero, List.set_cons_succ]
    refine wpAny_ready (rs := [1, 3]) (by kernel_rfl) (by simp) ?_
    refine AllReady.cons rfl (fun K hK => ?_) ?_
    · simp only [List.getElem_toArray, List.getElem_cons_zero, List.getElem_cons_succ]
      go_simp
      refine hK _ _ ?_; clear hK K
      refine wpAny_ready (rs := [3]) (by kernel_rfl) (by simp) ?_
      refine AllReady.cons rfl (fun K hK => ?_) AllReady.nil
      simp only [List.getElem_toArray, List.getElem_cons_zero, List.getElem_cons_succ]
      go_simp
      refine (FL.it _).mono ?_
      rintro e W3 ⟨rfl, rfl⟩
      refine hK _ _ ?_; clear hK K
      refine wpAny_take (i := 4) (v := ?_) rfl (by kernel_rfl) (by kernel_rfl) (by kernel_rfl) (fun _ _ _ h => h) (Or.inl ⟨by rfl, ?_⟩) ?_
      rotate_left 1
      · intro w; go_simp
        with_reducible rfl
      simp only [List.getElem_toArray, List.getElem_cons_zero, List.getElem_cons_succ, Act.put, List.setIfInBounds_toArray, List.set_cons_zero, List.set_cons_succ]
      refine wpAny_take (i := 5) (v := ?_) rfl (by kernel_rfl) (by kernel_rfl) (by kernel_rfl) (fun _ _ _ h => h) (Or.inl ⟨by rfl, ?_⟩) ?_
      rotate_left 1
      · intro w; go_simp
        with_reducible rfl
      simp only [List.getElem_toArray, List.getElem_cons_zero, List.getElem_cons_succ, Act.put, List.setIfInBounds_toArray, List.set_cons_zero, List.set_cons_succ]
      refine wpAny_ready (rs := [6]) (by kernel_rfl) (by simp) ?_
      refine AllReady.cons rfl (fun K hK => ?_) AllReady.nil
      simp only [List.getElem_toArray, List.getElem_cons_zero, List.getElem_cons_succ]
      go_simp
      refine hK _ _ ?_; clear hK K
      refine wpAny_done (by kernel_rfl) ?_ _
      dsimp only [Only]
      gi_wp2_with fail
      have ET : bits .or .u8 (h.t : Int) (ty : Int) = ((h.t ||| ty : Nat) : Int) := u8_or_nat _ _ (by have := HO.it.2.1; omega) (by have := BT.it; omega)
      have EF : bits .or .u16 (h.f : Int) (fl : Int) = ((h.f ||| fl : Nat) : Int) := u16_or_nat _ _ (by have := HO.it.2.2; omega) (by have := BT.it; omega)
      have KE : Keeps (fun k => k = rb + 1 ∨ k = rb + 1 + 1) W (((W.setCell ⟨rb + 1, 1, none⟩ (.int .u8 (bits .or .u8 h.t ty))).setCell ⟨rb + 1, 2, none⟩ (.int .u16 (bits .or .u16 h.f fl))).setCell ⟨rb + 1 + 1, 0, none⟩ (.string Sx)).drew.drew := ((((Keeps.refl _ W).setCell _ _ (fun _ => .inl rfl)).setCell _ _ (fun _ => .inl rfl)).setCell _ _ (fun _ => .inr rfl)).drew.drew
      have GF := (((G.it.setH (i := 1) (v := .int .u8 (bits .or .u8 h.t ty)) (h' := { h with t := h.t ||| ty }) (by rw [ET]; rfl) (by omega) (by omega) (by omega) (by omega)).setH (i := 2) (v := .int .u16 (bits .or .u16 h.f fl)) (h' := { h with t := h.t ||| ty, f := h.f ||| fl }) (by rw [EF]; rfl) (by omega) (by omega) (by omega) (by omega)).setA (x := x) (by omega) (by omega) (by omega) (by omega)).quiet ((Keeps.refl Nowhere _).drew.drew)
      rw [hSx] at GF
      have LT := (Array.getElem?_eq_some_iff.1 HREC.it).1
      exact ⟨⟨KE.block _ LT (by omega), fun k hk => KE.block k (by omega) (by omega)⟩, _, x, GF, ⟨HO.it.1, or_le8 HO.it.2.1 (by have := BT.it; omega), or_le16 HO.it.2.2 (by have := BT.it; omega)⟩, hg'.it⟩
    refine AllReady.cons rfl (fun K hK => ?_) AllReady.nil
    simp only [List.getElem_toArray, List.getElem_cons_zero, List.getElem_cons_succ]
    go_simp
    refine (FL.it _).mono ?_
    rintro e W3 ⟨rfl, rfl⟩
    refine hK _ _ ?_; clear hK K
    refine wpAny_ready (rs := [1]) (by kernel_rfl) (by simp) ?_
    refine AllReady.cons rfl (fun K hK => ?_) AllReady.nil
    simp only [List.getElem_toArray, List.getElem_cons_zero, List.getElem_cons_succ]
    go_simp
    refine hK _ _ ?_; clear hK K
    refine wpAny_take (i := 4) (v := ?_) rfl (by kernel_rfl) (by kernel_rfl) (by kernel_rfl) (fun _ _ _ h => h) (Or.inl ⟨by rfl, ?_⟩) ?_
    rotate_left 1
    · intro w; go_simp
      with_reducible rfl
    simp only [List.getElem_toArray, List.getElem_cons_zero, List.getElem_cons_succ, Act.put, List.setIfInBounds_toArray, List.set_cons_zero, List.set_cons_succ]
    refine wpAny_take (i := 5) (v := ?_) rfl (by kernel_rfl) (by kernel_rfl) (by kernel_rfl) (fun _ _ _ h => h) (Or.inl ⟨by rfl, ?_⟩) ?_
    rotate_left 1
    · intro w; go_simp
      with_reducible rfl
    simp only [List.getElem_toArray, List.getElem_cons_zero, List.getElem_cons_succ, Act.put, List.setIfInBounds_toArray, List.set_cons_zero, List.set_cons_succ]
    refine wpAny_ready (rs := [6]) (by kernel_rfl) (by simp) ?_
    refine AllReady.cons rfl (fun K hK => ?_) AllReady.nil
    simp only [List.getElem_toArray, List.getElem_cons_zero, List.getElem_cons_succ]
    go_simp
    refine hK _ _ ?_; clear hK K
    refine wpAny_done (by kernel_rfl) ?_ _
    dsimp only [Only]
    gi_wp2_with fail
    have ET : bits .or .u8 (h.t : Int) (ty : Int) = ((h.t ||| ty : Nat) : Int) := u8_or_nat _ _ (by have := HO.it.2.1; omega) (by have := BT.it; omega)
    have EF : bits .or .u16 (h.f : Int) (fl : Int) = ((h.f ||| fl : Nat) : Int) := u16_or_nat _ _ (by have := HO.it.2.2; omega) (by have := BT.it; omega)
    have KE : Keeps (fun k => k = rb + 1 ∨ k = rb + 1 + 1) W (((W.setCell ⟨rb + 1, 1, none⟩ (.int .u8 (bits .or .u8 h.t ty))).setCell ⟨rb + 1, 2, none⟩ (.int .u16 (bits .or .u16 h.f fl))).setCell ⟨rb + 1 + 1, 0, none⟩ (.string Sx)).drew.drew := ((((Keeps.refl _ W).setCell _ _ (fun _ => .inl rfl)).setCell _ _ (fun _ => .inl rfl)).setCell _ _ (fun _ => .inr rfl)).drew.drew
    have GF := (((G.it.setH (i := 1) (v := .int .u8 (bits .or .u8 h.t ty)) (h' := { h with t := h.t ||| ty }) (by rw [ET]; rfl) (by omega) (by omega) (by omega) (by omega)).setH (i := 2) (v := .int .u16 (bits .or .u16 h.f fl)) (h' := { h with t := h.t ||| ty, f := h.f ||| fl }) (by rw [EF]; rfl) (by omega) (by omega) (by omega) (by omega)).setA (x := x) (by omega) (by omega) (by omega) (by omega)).quiet ((Keeps.refl Nowhere _).drew.drew)
    rw [hSx] at GF
    have LT := (Array.getElem?_eq_some_iff.1 HREC.it).1
    exact ⟨⟨KE.block _ LT (by omega), fun k hk => KE.block k (by omega) (by omega)⟩, _, x, GF, ⟨HO.it.1, or_le8 HO.it.2.1 (by have := BT.it; omega), or_le16 HO.it.2.2 (by have := BT.it; omega)⟩, hg'.it⟩
  case done =>
    rintro W ⟨h, a, g, ho, hg⟩
    have e := hg []
    rw [List.append_nil, HR.it, Tp.gRun] at e
    injection e with e
    subst e
    have e0 : w2.heap.size ≠ rb := by omega
    have G := Aside.mk g
    have c0 : W.cell? ⟨rb + 1, 0, none⟩ = some (.int .u8 hf.v) := by rw [g.hc.cell]; rfl
    have c1 : W.cell? ⟨rb + 1, 1, none⟩ = some (.int .u8 hf.t) := by rw [g.hc.cell]; rfl
    have c2 : W.cell? ⟨rb + 1, 2, none⟩ = some (.int .u16 hf.f) := by rw [g.hc.cell]; rfl
    have c3 : W.cell? ⟨rb + 1, 3, none⟩ = some (.int .u32 hf.s) := by rw [g.hc.cell]; rfl
    have c4 : W.cell? ⟨rb + 1, 4, none⟩ = some (.int .u32 hf.l) := by rw [g.hc.cell]; rfl
    have d0 : W.cell? ⟨rb, 0, none⟩ = some (.int .u8 0) := by rw [g.rc.cell]; rfl
    have d1 : W.cell? ⟨rb, 1, none⟩ = some (.int .u8 0) := by rw [g.rc.cell]; rfl
    have d2 : W.cell? ⟨rb, 2, none⟩ = some (.int .u16 0) := by rw [g.rc.cell]; rfl
    have d3 : W.cell? ⟨rb, 3, none⟩ = some (.int .u32 0) := by rw [g.rc.cell]; rfl
    have d4 : W.cell? ⟨rb, 4, none⟩ = some (.int .u32 0) := by rw [g.rc.cell]; rfl
    have f0 := g.rc.frozen 0
    have f1 := g.rc.frozen 1
    have f2 := g.rc.frozen 2
    have f3 := g.rc.frozen 3
    have f4 := g.rc.frozen 4
    clear g ho hg
    gi_wp2_with fail
    go_wp2_with fail
    obtain ⟨KR0, CR0⟩ := five W rb (.int .u8 hf.v) (.int .u8 hf.t) (.int .u16 hf.f) (.int .u32 hf.s) (.int .u32 hf.l)
    have CR := CR0 _ _ _ _ _ _ G.it.rc
    clear CR0
    have KR := KR0
    clear KR0
    generalize (((((W.setCell ⟨rb, 0, none⟩ (.int .u8 hf.v)).setCell ⟨rb, 1, none⟩ (.int .u8 hf.t)).setCell ⟨rb, 2, none⟩ (.int .u16 hf.f)).setCell ⟨rb, 3, none⟩ (.int .u32 hf.s)).setCell ⟨rb, 4, none⟩ (.int .u32 hf.l)) = Wf at KR CR ⊢
    have hK' : Wf.heap[w2.heap.size]? = some (.deferred (some [])) := (KR.block _ (Array.getElem?_eq_some_iff.1 G.it.df).1 e0).trans G.it.df
    have kp := putObj_keepsT Wf w2.heap.size (.deferred none)
    have CP := CR.later kp (Ne.symm e0)
    have z0 := CP.cell 0
    have z1 := CP.cell 1
    have z2 := CP.cell 2
    have z3 := CP.cell 3
    have z4 := CP.cell 4
    simp only [List.getElem?_cons_zero, List.getElem?_cons_succ] at z0 z1 z2 z3 z4
    have BF : Below w.heap.size w (Wf.putObj w2.heap.size (.deferred none)) := below_next (below_next G.it.bel KR G.it.bel.size (fun k e _ => by have : k = rb := e; have := HRB.it; omega)) kp (Nat.le_trans G.it.bel.size KR.size) (fun k e _ => by have : k = w2.heap.size := e; have := X1.it.2.2.2.1.size; have := K2.it.size; omega)
    refine ⟨by simp, .inl ⟨_, _, rfl, run_takeDeferred hK', ?_⟩⟩
    refine ⟨.agg (hcl hf).toArray, ?_, rfl, ⟨BF⟩⟩
    clear CR CP KR BF hK'
    simp [results, Tryz.f28, go_sem, z0, z1, z2, z3, z4]
end Go.Proofs.YtbbldkldgjmmgaaGreatDoor
