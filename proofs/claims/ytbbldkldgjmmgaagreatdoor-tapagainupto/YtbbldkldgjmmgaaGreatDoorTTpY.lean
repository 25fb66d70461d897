/-
  package tap: Feed, of bytes that kill nothing
-/
import Derived.Test.YtbbldkldgjmmgaaGreatDoorTTpX
import Derived.Test.YtbbldkldgjmmgaaGreatDoorTFeedQ
namespace Go.Proofs.YtbbldkldgjmmgaaGreatDoor
open Go.RowKit Go.Maps
attribute [-go_sem] run_index_string

/-- the lines of frames -/
def lineH (x : List Int × List Int) : List UInt8 := lineB (dV x.1) (dT x.1) (dF x.1) (dS x.1) (dL x.1) x.2
def linesB (fs : List (List Int × List Int)) : List UInt8 := fs.flatMap fun x => lineH x ++ [10]
def costF (fs : List (List Int × List Int)) : Nat := (fs.map fun x => x.2.length + 1).sum
theorem fits_of {h : List Int} (hb : AreBytes h) (hl : h.length = 12) : Fits (dV h) (dT h) (dF h) (dS h) (dL h) := by
  have t := dT_bounds hb
  have l := dL_bounds hb
  have bd : ∀ k, AreBytes (h.drop k) := fun k n hn => hb n (List.mem_of_mem_drop hn)
  have f := gX2_bounds (bd 2)
  have s := gX4_bounds (bd 4)
  have v : 0 ≤ dV h ∧ dV h ≤ 255 := by
    unfold dV
    rw [if_neg (by omega)]
    obtain ⟨a0, a1, a2, a3, a4, a5, a6, a7, a8, a9, a10, a11, rfl⟩ := list12 hl
    exact hb a0 (by simp)
  have ef : dF h = gX 2 (h.drop 2) := by unfold dF; rw [if_neg (by omega)]
  have es : dS h = gX 4 (h.drop 4) := by unfold dS; rw [if_neg (by omega)]
  exact ⟨v.1, v.2, t.1, t.2, by rw [ef]; exact f.1, by rw [ef]; exact f.2, by rw [es]; exact s.1, by rw [es]; exact s.2, l.1, l.2⟩
/-- a frame that a decoder gave -/
structure FrGood (most : Int) (x : List Int × List Int) : Prop where
  ok : FrOk (ckH most) szN x
  b1 : AreBytes x.1
  b2 : AreBytes x.2
theorem flat_mem : ∀ {fs : List (List Int × List Int)} {x : List Int × List Int}, x ∈ fs → ∀ n, (n ∈ x.1 ∨ n ∈ x.2) → n ∈ flat fs
  | [], _, h, _, _ => by cases h
  | y :: fs, x, h, n, hn => by
    have e : flat (y :: fs) = y.1 ++ y.2 ++ flat fs := by rw [flat]
    rw [e]
    rcases List.mem_cons.1 h with rfl | h
    · rcases hn with hn | hn <;> simp [hn]
    · have := flat_mem h n hn
      simp [this]
theorem prs_good {most : Int} {ns : List Int} (hb : AreBytes ns) (hd : (prs most ns).dead = none) : ∀ x ∈ (prs most ns).fs, FrGood most x := fun x hx => by
  have h1 := parse_ok (ck := ckH most) (sz := szN) ns x hx
  have h2 := (parse_rest (ck := ckH most) (sz := szN) ns hd).2
  have hm : ∀ n, (n ∈ x.1 ∨ n ∈ x.2) → n ∈ ns := fun n hn => by
    rw [h2]
    exact List.mem_append_left _ (flat_mem hx n hn)
  exact ⟨h1, fun n hn => hb n (hm n (.inl hn)), fun n hn => hb n (hm n (.inr hn))⟩
theorem cost_le {most : Int} : ∀ (fs : List (List Int × List Int)), (∀ x ∈ fs, FrGood most x) → costF fs ≤ (flat fs).length ∧ (linesB fs).length ≤ 90 * (flat fs).length
  | [], _ => by simp [costF, linesB]
  | x :: fs, h => by
    obtain ⟨i1, i2⟩ := cost_le fs (fun y hy => h y (by simp [hy]))
    have g := h x (by simp)
    have e : (flat (x :: fs)).length = 12 + x.2.length + (flat fs).length := by rw [flat]; simp [g.ok.1]; omega
    have hl := line_len (ns := x.2) (fits_of g.b1 g.ok.1)
    have e2 : (linesB (x :: fs)).length = (lineH x).length + 1 + (linesB fs).length := by unfold linesB; rw [List.flatMap_cons]; simp; omega
    have e3 : costF (x :: fs) = x.2.length + 1 + costF fs := by unfold costF; simp
    have hl2 : (lineH x).length ≤ 3 * x.2.length + 1002 := hl
    omega
theorem linesB_snoc {fs : List (List Int × List Int)} {j : Nat} {x : List Int × List Int} (h : fs[j]? = some x) : linesB (fs.take (j + 1)) = linesB (fs.take j) ++ lineH x ++ [10] ∧ costF (fs.take (j + 1)) = costF (fs.take j) + x.2.length + 1 := by
  have e : fs.take (j + 1) = fs.take j ++ [x] := by rw [List.take_add_one, h]; rfl
  rw [e]
  unfold linesB costF
  rw [List.flatMap_append, List.map_append, List.sum_append]
  simp
  omega
theorem take_le {fs : List (List Int × List Int)} (j : Nat) : (flat (fs.take j)).length ≤ (flat fs).length := by
  have := flat_append (fs.take j) (fs.drop j)
  rw [List.take_append_drop] at this
  rw [this, List.length_append]
  omega
section
variable {A : Nat → Addr} {w0 w w' : World} {own : Nat → Nat} {p dp N : Nat} {most : Int} {hs : List Int}
theorem TapO.quiet (h : TapO A w0 own w p dp most hs N) (hk : Keeps Nowhere w w') : TapO A w0 own w' p dp most hs N := by
  obtain ⟨g, d, ⟨n0, n1, n2, n3, pl, c, b⟩, o⟩ := h
  exact ⟨g.quiet hk, d.quiet hk, ⟨n0, n1, n2, n3, pl, c.later hk (fun x => x), b⟩, o⟩
theorem ck_type {h : List Int} (hc : ckH most h = true) : dT h ≤ 3 := by
  have := of_decide_eq_true hc
  unfold chkH chk at this
  by_cases h1 : dV h ≠ 0
  · rw [if_pos h1] at this; cases this
  · rw [if_neg h1] at this
    by_cases h2 : 4 ≤ dT h
    · rw [if_pos h2] at this; cases this
    · omega
/-- a frame of the row: its cells, its payload, whose block is not p -/
theorem frames_at {own : Nat → Nat} {p : Nat} {W : World} {q : Option Addr} {l c k : Nat} {h d : List Int} {fs : List (List Int × List Int)} (F : FramesO own 2 W (.slice q l c) fs) (hk : fs[k]? = some (h, d)) (hp : own p = 3) :
    ∃ g o dq dc, q = some ⟨g, o, none⟩ ∧ Aside (FrAt W g (o + k * 6) h (.slice dq d.length dc)) ∧ Aside (Rd W (.slice dq d.length dc) d) ∧ Aside (∀ x, (Value.slice dq d.length dc).ownBlock = some x → x ≠ p) := by
  obtain ⟨g, o, dq, dc, e, FA, RD⟩ := F.reads.at hk
  refine ⟨g, o, dq, dc, e, FA, RD, ⟨fun x hx e2 => ?_⟩⟩
  obtain ⟨xs, h1, h2, h3, h4⟩ := F
  have hk2 := hk
  rw [← h1, List.getElem?_map, Option.map_eq_some_iff] at hk2
  obtain ⟨y, hy, ey⟩ := hk2
  have hd := h4 y (List.mem_of_getElem? hy)
  have hf : W.cell? ⟨g, o + k * 6 + 5, none⟩ = some y.2 := by
    obtain ⟨g', o', dq', dc', e', FA', RD'⟩ := (show FramesR W (.slice q l c) fs from ⟨xs, h1, owns_readsK h2, fun x hx => (h4 x hx).rd⟩).at hk
    subst e
    have := h2.cells (g := g) rfl (k * 6 + 5) y.2 (by rw [fcells_get xs k 5 y hy (by decide)]; rfl)
    have eo : o = 0 := by
      rcases h2.2 with ⟨h0, _⟩ | ⟨gg, cap, cur, h0, _⟩
      · cases h0
      · injection h0 with h0; injection h0 with h0; injection h0
    subst eo
    rw [add_none] at this
    rw [show 0 + k * 6 + 5 = 0 + (k * 6 + 5) by omega]
    exact this
  have h5 := FA.it.2.2.2.2.2
  rw [hf] at h5
  injection h5 with h5
  rw [h5] at hd
  have := hd.2 x hx
  rw [e2, hp] at this
  cases this
set_option maxRecDepth 20000 in
set_option maxHeartbeats 8000000 in
theorem tapFeed_at (hW : Words w0) (T : TapO A w0 own w p dp most hs N) {q0 : Option Addr} {l0 c0 : Nat} {bs : List Int} (R : RdS (fun k => own k = 1) w (.slice q0 l0 c0) bs) (hb : AreBytes bs) (hlen : hs.length + bs.length ≤ 1099511627776) (hN : N ≤ 1125899906842624) (hdead : (prs most (hs ++ bs)).dead = none) :
    Calls Tryz.prog 13 #[ptr p, .slice q0 l0 c0] w fun e w' => e = .returned (.string (str (linesB (prs most (hs ++ bs)).fs))) ∧ Aside (∃ own' N', TapO A w0 own' w' p dp most (prs most (hs ++ bs)).rest N' ∧ N' ≤ N + (flat (prs most (hs ++ bs)).fs).length ∧ (∀ k, k < w.heap.size → own' k = own k) ∧ Keeps (fun k => own k = 1 ∨ own k = 3) w w') := by
  have HT := Aside.mk T
  have HR := Aside.mk R
  have hsb : AreBytes hs := by obtain ⟨g, d, _⟩ := T.d.d; exact d.b
  have GD := Aside.mk (prs_good (most := most) (ns := hs ++ bs) (fun n hn => by rcases List.mem_append.1 hn with h | h; exact hsb n h; exact hb n h) hdead)
  have HFL : Aside ((flat (prs most (hs ++ bs)).fs).length ≤ 1099511627776) := ⟨by
    have h2 := (parse_rest (ck := ckH most) (sz := szN) (hs ++ bs) hdead).2
    have := congrArg List.length h2
    rw [List.length_append, List.length_append] at this
    show (flat (parse (ckH most) szN (hs ++ bs)).fs).length ≤ _
    omega⟩
  have WT := Aside.mk (wants_s (A := A) (j := 2) (dead := none) T.d)
  have hwp : ((wantsS hs none : Nat) : Int) ≠ 0 := by have := T.d.l.wants; show ((wantsP szN hs : Nat) : Int) ≠ 0; omega
  have hw0 : (((wantsS hs none : Nat) : Int) == 0) = false := beq_eq_false_iff_ne.2 hwp
  generalize ((wantsS hs none : Nat) : Int) = Wn at WT hw0
  have FS : Aside (∀ W, Keeps Nowhere w W → Calls Tryz.prog 31 #[dPtr dp, .slice q0 l0 c0] W fun e w' => ∃ fv own', e = .returned (.tuple #[fv, .nilIface]) ∧ Aside (Fed A w0 own 1 2 W dp most (prs most (hs ++ bs)) own' w' fv .nilIface)) := ⟨fun W hk => by
    have D := (show DecS A own 1 2 w dp most hs none from HT.it.d).quiet hk
    have RW : RdS (fun k => own k = 1) W (.slice q0 l0 c0) bs := (HR.it.later (Keeps.any hk)).mono (fun k h _ => .inl h)
    refine (feed_s (i := 1) (j := 2) (by decide) (by decide) (HT.it.g.quiet hk) D _ bs RW hb hlen).mono ?_
    rintro e w' ⟨fv, ev, own', rfl, F⟩
    have e1 : feedO most hs none bs = prs most (hs ++ bs) := rfl
    rw [e1] at F
    have E := F.it.E
    rw [hdead] at E
    have : ev = .nilIface := E
    subst this
    exact ⟨fv, own', rfl, F⟩⟩
  obtain ⟨n0, n1, n2, n3, pl, hc, hcn⟩ := T.c
  have c0 : w.cell? ⟨p, 0, none⟩ = some (dPtr dp) := by rw [hc.cell]; rfl
  have HC := Aside.mk (And.intro hc hcn)
  have HNN := Aside.mk hN
  have HWW := Aside.mk hW
  generalize prs most (hs ++ bs) = O at GD HFL FS hdead ⊢
  clear T R hb hlen hN hsb hwp hc hcn hW
  go_enter Tryz.func13, Tryz.ntmps13
  go_upto_region 3 with (first
    | (go_at_call 30; refine WT.it.mono ?_; rintro e w1 ⟨rfl, k1⟩; have K1 := Aside.mk k1; clear k1; have z0 := KeW.cell c0 ⟨w1, K1.it⟩)
    | fail)
  have FS1 := Aside.mk (FS.it _ K1.it)
  have C1 := Aside.mk (HC.it.1.later K1.it (fun x => x))
  have c1 : w1.cell? ⟨p, 0, none⟩ = some (dPtr dp) := by rw [C1.it.cell]; rfl
  go_upto_region 4 with (first
    | (go_at_call 31; refine FS1.it.mono ?_; rintro e w2 ⟨fv, own2, rfl, F2⟩)
    | fail)
  have hpl : p < w1.heap.size := C1.it.lt
  have C2 := Aside.mk (C1.it.later F2.it.K (by rw [HT.it.o]; decide))
  obtain ⟨fq, fc, hfv⟩ := F2.it.F.reads.shape
  subst hfv
  have FR2 := Aside.mk F2.it.F
  have D2 : Aside (DecL own2 1 w2 dp most O.rest) := ⟨by have := F2.it.D; rw [hdead] at this; exact this⟩
  have G2 := Aside.mk F2.it.G
  have E2 := Aside.mk F2.it.ext
  have K2 := Aside.mk F2.it.K
  have op2 : Aside (own2 p = 3) := ⟨(F2.it.ext p hpl).trans HT.it.o⟩
  clear F2 FS FS1 WT z0 c1 hw0
  obtain ⟨fs, hfs⟩ : ∃ fs, O.fs = fs := ⟨_, rfl⟩
  have HFS := Aside.mk hfs
  rw [hfs] at GD HFL FR2 ⊢
  obtain ⟨n, hn⟩ : ∃ n, fs.length = n := ⟨_, rfl⟩
  rw [hn]
  have HN := Aside.mk hn
  have CST := Aside.mk (cost_le fs GD.it)
  have hnb : n ≤ 1099511627776 := by
    have := flat_length (ck := ckH most) (sz := szN) fs (fun x hx => (GD.it x hx).ok)
    have := HFL.it
    omega
  have hni : (n : Int) ≤ 1099511627776 := by omega
  clear hn hfs
  go_upto_region 5 with fail
  obtain ⟨b, hbb⟩ : ∃ b, w2.heap.size = b := ⟨_, rfl⟩
  have HBB := Aside.mk hbb
  obtain ⟨w3, hw3⟩ : ∃ w3, w2.alloc (.cells #[.pointer none, .slice none 0 0] 76) = w3 := ⟨_, rfl⟩
  have K3 : Aside (Keeps Nowhere w2 w3) := ⟨by rw [← hw3]; exact (Keeps.refl _ _).alloc _⟩
  have B3 : Aside (Cells w3 b 76 [.pointer none, .slice none 0 0]) := ⟨by rw [← hw3, ← hbb]; exact Cells.new w2 _ _⟩
  have S3 : Aside (w3.heap.size = b + 1) := ⟨by rw [← hw3, ← hbb]; simp⟩
  rw [hw3, hbb]
  clear hw3 hbb
  obtain ⟨own3, ho3⟩ : ∃ own3, give own2 w2.heap.size 3 = own3 := ⟨_, rfl⟩
  have OLD : Aside (∀ k, k < w2.heap.size → own3 k = own2 k) := ⟨fun k hk => by rw [← ho3]; exact give_old hk⟩
  have NEW : Aside (∀ k, w2.heap.size ≤ k → own3 k = 3) := ⟨fun k hk => by rw [← ho3]; exact give_new hk⟩
  clear ho3
  have G3 : Aside (Gr A w0 own3 w3) := ⟨(G2.it.ext OLD.it).quiet K3.it⟩
  have D3 : Aside (DecL own3 1 w3 dp most O.rest) := ⟨by
    obtain ⟨⟨g, d, hg⟩, l⟩ := D2.it
    exact ⟨⟨g, (d.ext _ OLD.it).quiet K3.it, hg⟩, l⟩⟩
  have F3 : Aside (FramesO own3 2 w3 (.slice fq n fc) fs) := ⟨by
    have h := FR2.it.others (i := 3) (own' := own3) (Keeps.any K3.it) (by decide) OLD.it
    rw [HN.it] at h
    exact h⟩
  have C3 := Aside.mk (C2.it.later K3.it (fun x => x))
  have op3 : Aside (own3 p = 3 ∧ own3 b = 3 ∧ p < b) := ⟨by
    have h1 := C2.it.lt
    have h2 := HBB.it
    exact ⟨(OLD.it p h1).trans op2.it, NEW.it b (by omega), by omega⟩⟩
  have BL : Aside (Bld (b + 1) w3 b (.slice none 0 0) (linesB (fs.take 0))) := ⟨⟨none, B3.it, .inl rfl⟩, World.ownsRow_nil _ _ _ _⟩
  have TC3 : Aside (TapC w3 p dp (N + costF (fs.take 0))) := ⟨⟨_, _, _, _, _, C3.it, HC.it.2⟩⟩
  clear FR2 D2 G2 C1 C2 B3
  go_upto_region 6 with fail
  go_loopw [33] (fun iv wr => ∃ (j : Nat) (vv : Value), iv = .int .i64 j ∧ j ≤ n ∧ Aside (Bld (b + 1) wr b vv (linesB (fs.take j)) ∧ TapC wr p dp (N + costF (fs.take j)) ∧ Keeps (fun k => own3 k = 3) w3 wr)) (fun iv _ => n - natOfU iv)
  case atStart => exact ⟨0, _, rfl, Nat.zero_le _, ⟨BL.it, TC3.it, Keeps.refl _ _⟩⟩
  case round =>
    obtain ⟨j, vv, rfl, hj, HX⟩ := hrel
    have SZ : Aside (b + 1 ≤ wr.heap.size) := ⟨by have := HX.it.2.2.size; have := S3.it; omega⟩
    rcases Nat.eq_or_lt_of_le hj with rfl | hlt
    · have eT : fs.take j = fs := List.take_of_length_le (by rw [HN.it]; exact Nat.le_refl _)
      rw [eT] at HX
      have ST := Aside.mk (string_at (C := b) HX.it.1 (Nat.le_succ b) (Nat.le_refl b) SZ.it)
      clear eT
      go_wp2_with (first | (go_at_call 36; refine ST.it.mono ?_; rintro e w7 ⟨rfl, X7⟩) | fail)
      go_ret
      have K7 : Keeps (fun k => own3 k = 3) w3 w7 := HX.it.2.2.next (S' := fun k => b ≤ k) ⟨X7.it.os, X7.it.tape, X7.it.output, X7.it.size, fun k _ hn => X7.it.block k (by omega)⟩ (fun k e _ => NEW.it k (by have := HBB.it; omega))
      obtain ⟨m0, m1, m2, m3, mp, mc, mb⟩ := HX.it.2.1
      have C7 := mc.later (S := fun k => b ≤ k) (w' := w7) ⟨X7.it.os, X7.it.tape, X7.it.output, X7.it.size, fun k _ hn => X7.it.block k (by omega)⟩ (by have := op3.it; omega)
      have s1 := K1.it.size
      have s2 := K2.it.size
      have EX : ∀ k, k < w.heap.size → own3 k = own k := fun k hk => (OLD.it k (by omega)).trans (E2.it k (by omega))
      refine ⟨by rw [HFS.it]; rfl, ⟨own3, N + costF fs, ⟨G3.it.step K7 (by decide) (fun _ _ => rfl), decL_others D3.it K7 (fun _ _ => rfl), ⟨m0, m1, m2, m3, mp, C7, mb⟩, op3.it.1⟩, by rw [HFS.it]; have := CST.it.1; omega, EX, ?_⟩⟩
      exact (((Keeps.any (S := fun k => own k = 1 ∨ own k = 3) K1.it).next (K2.it.mono (fun k e _ => (.inl e : own k = 1 ∨ own k = 3))) (fun k e _ => e)).next (Keeps.any (S := fun k => own k = 1 ∨ own k = 3) K3.it) (fun k e _ => e)).next K7 (fun k e hk => .inr ((EX k hk).symm.trans e))
    · obtain ⟨⟨h, d⟩, hx⟩ : ∃ x, fs[j]? = some x := ⟨_, List.getElem?_eq_getElem (by rw [HN.it]; exact hlt)⟩
      have GX := Aside.mk (GD.it _ (List.mem_of_getElem? hx))
      have FTX := Aside.mk (fits_of GX.it.b1 GX.it.ok.1)
      have FRr : FramesO own3 2 wr (.slice fq n fc) fs := F3.it.others HX.it.2.2 (by decide) (fun _ _ => rfl)
      obtain ⟨g, o, dq, dc, rfl, FA, RD, NP⟩ := frames_at FRr hx op3.it.1
      obtain ⟨a0, a1, a2, a3, a4, a5⟩ := FA.it
      have SN := Aside.mk (linesB_snoc hx)
      have CS2 := Aside.mk (show (linesB (fs.take j)).length + (lineH (h, d)).length + 1 ≤ 98956046499840 ∧ costF (fs.take j) + d.length + 1 ≤ 1099511627776 by
        have h1 := cost_le (most := most) (fs.take (j + 1)) (fun x hx => GD.it x (List.mem_of_mem_take hx))
        have h2 := take_le (fs := fs) (j + 1)
        have h3 := HFL.it
        rw [SN.it.1, SN.it.2] at h1
        simp only [List.length_append, List.length_cons, List.length_nil] at h1
        omega)
      have BW : Aside (Below w0.heap.size w0 wr) := ⟨(G3.it.step HX.it.2.2 (by decide) (fun _ _ => rfl)).g.bel⟩
      have HB0 := Aside.mk G3.it.b
      clear hx FRr
      have hjk : (j : Int) ≤ 1099511627776 := by omega
      go_upto_region 8 with fail
      have H4 := FB.new wr (dV h) (dT h) (dF h) (dS h) (dL h) (.slice dq d.length dc)
      have R4 := Aside.mk (RD.it.later (alloc_below wr (fbox (dV h) (dT h) (dF h) (dS h) (dL h) (.slice dq d.length dc))))
      have K4 : Aside (Keeps Nowhere wr (wr.alloc (fbox (dV h) (dT h) (dF h) (dS h) (dL h) (.slice dq d.length dc)))) := ⟨(Keeps.refl _ _).alloc _⟩
      have H4a := Aside.mk H4
      clear H4 a0 a1 a2 a3 a4 a5
      obtain ⟨fb, hfb⟩ : ∃ fb, wr.heap.size = fb := ⟨_, rfl⟩
      have HFB := Aside.mk hfb
      rw [hfb] at H4a ⊢
      clear hfb
      generalize wr.alloc (fbox (dV h) (dT h) (dF h) (dS h) (dL h) (.slice dq d.length dc)) = w4 at H4a R4 K4 ⊢
      have TC4 : TapC w4 p dp (N + costF (fs.take j)) := by
        obtain ⟨m0, m1, m2, m3, mp, mc, mb⟩ := HX.it.2.1
        exact ⟨m0, m1, m2, m3, mp, mc.later K4.it (fun x => x), mb⟩
      have CT := Aside.mk (count_any w4 (v := dV h) (f := dF h) (s := dS h) (l := dL h) (dq := dq) (n := d.length) (dc := dc) FTX.it.t0 (ck_type GX.it.ok.2.1) TC4 (by have := CS2.it.2; have := HNN.it; omega))
      obtain ⟨⟨b0, b1, b2, b3, b4⟩, b5⟩ := H4a.it
      have BL4 : Bld (b + 1) w4 b vv (linesB (fs.take j)) := HX.it.1.later K4.it (fun x => x) (fun _ _ x => x)
      have BL4 := Aside.mk BL4
      go_upto_region 9 with (first
        | (go_at_call 32; refine CT.it.mono ?_; rintro e w5 ⟨rfl, X5⟩)
        | fail)
      have hpb := op3.it.2.2
      have hbw : b < w4.heap.size := BL4.it.lt
      have hpf : p ≠ fb := by have := HFB.it; have := SZ.it; omega
      have BL5 := Aside.mk (BL4.it.later X5.it.2 (by omega) (fun g hg e => by have := owns_base BL4.it.r g hg; have : g = p := e; omega))
      have R5 : Aside (Rd w5 (.slice dq d.length dc) d) := ⟨by
        have nb : ∀ g, (Value.slice dq d.length dc).ownBlock = some g → g ≠ p := NP.it
        exact R4.it.keep X5.it.2 (fun g hg e => nb g hg e)⟩
      have H5 : Aside (FB fb (dV h) (dT h) (dF h) (dS h) (dL h) (.slice dq d.length dc) w5) := ⟨by
        obtain ⟨⟨x0, x1, x2, x3, x4⟩, x5⟩ := H4a.it
        have kk : ∀ i u, w4.cell? ⟨fb, i, none⟩ = some u → w5.cell? ⟨fb, i, none⟩ = some u := fun i u hu => by
          rw [World.cell?_of_block (X5.it.2.block fb (World.block_lt_of_cell? w4 _ hu) (fun e => hpf e.symm))]
          exact hu
        exact ⟨⟨kk _ _ x0, kk _ _ x1, kk _ _ x2, kk _ _ x3, kk _ _ x4⟩, kk _ _ x5⟩⟩
      have KQ5 : Aside (Keeps (fun k => own3 k = 3) w3 w5) := ⟨(HX.it.2.2.trans (Keeps.any K4.it)).next (X5.it.2.mono (fun k e _ => (by rw [show k = p from e]; exact op3.it.1 : own3 k = 3))) (fun k e _ => e)⟩
      have BW5 : Aside (Below w0.heap.size w0 w5) := ⟨(G3.it.step KQ5.it (by decide) (fun _ _ => rfl)).g.bel⟩
      have LN := Aside.mk (line_at w5 (HB0.it.s.later BW5.it) (HWW.it.later BW5.it) FTX.it R5.it GX.it.b2 (by have := CS2.it.2; omega))
      have LN : Aside (Calls Tryz.prog 5 #[frm (dV h) (dT h) (dF h) (dS h) (dL h) (.slice dq d.length dc)] w5 fun e w' => e = .returned (.tuple #[.string (str (lineH (h, d))), .nilIface]) ∧ Aside (Below w5.heap.size w5 w')) := ⟨by
        have hz : (d.length : Int) = szH (dT h) (dL h) := by
          have h1 : d.length = szN h := GX.it.ok.2.2
          have h2 : 0 ≤ szH (dT h) (dL h) := by unfold szH; split; exact FTX.it.l0; omega
          rw [h1]; unfold szN; omega
        refine LN.it.mono ?_
        rintro e w' ⟨(⟨_, rfl⟩ | ⟨h1, _⟩), bb⟩
        · exact ⟨rfl, bb⟩
        · exact absurd hz h1⟩
      clear b0 b1 b2 b3 b4 b5 H4a R4 CT
      obtain ⟨⟨b0, b1, b2, b3, b4⟩, b5⟩ := H5.it
      obtain ⟨LH, hLH⟩ : ∃ LH, lineH (h, d) = LH := ⟨_, rfl⟩
      have HLH : Aside (lineH (h, d) = LH) := ⟨hLH⟩
      rw [hLH] at LN CS2 SN
      clear hLH
      go_upto_region 10 with (first
        | (go_at_call 5; refine LN.it.mono ?_; rintro e w6 ⟨rfl, B6⟩)
        | fail)
      have K6 : Aside (Keeps Nowhere w5 w6) := ⟨Keeps.ofBelow B6.it⟩
      have BL6 := BL5.it.later K6.it (fun x => x) (fun _ _ x => x)
      have SZ6 : Aside (b + 1 ≤ w6.heap.size) := ⟨Nat.le_trans SZ.it (Nat.le_trans K4.it.size (Nat.le_trans X5.it.2.size K6.it.size))⟩
      have WS := Aside.mk (ws_at (s := LH) BL6 SZ6.it (by have := CS2.it.1; omega))
      clear BL6 b0 b1 b2 b3 b4 b5
      go_upto_region 11 with (first
        | (go_at_call 33; refine WS.it.mono ?_; rintro e w7 ⟨v7, rfl, X7⟩)
        | fail)
      have SZ7 : Aside (b + 1 ≤ w7.heap.size) := ⟨Nat.le_trans SZ6.it X7.it.2.size⟩
      have WB := Aside.mk (wb_at (c := 10) (by decide) (by decide) X7.it.1 SZ7.it (by have := CS2.it.1; rw [List.length_append]; omega))
      go_wp2_with (first
        | (go_at_call 34; refine WB.it.mono ?_; rintro e w8 ⟨v8, rfl, X8⟩)
        | fail)
      go_roundw
      case rel =>
        have KB7 : Keeps (fun k => b ≤ k) w6 w7 := X7.it.2.mono (fun k e _ => by
          rcases e with e | e
          · omega
          · have := owns_base (BL5.it.later K6.it (fun x => x) (fun _ _ x => x)).r k e; omega)
        have KB8 : Keeps (fun k => b ≤ k) w7 w8 := X8.it.2.mono (fun k e _ => by
          rcases e with e | e
          · omega
          · have := owns_base X7.it.1.r k e; omega)
        have KB : Keeps (fun k => b ≤ k) w5 w8 := ((Keeps.any K6.it).trans KB7).trans KB8
        obtain ⟨m0, m1, m2, m3, mp, mc, mb⟩ := X5.it.1
        refine ⟨j + 1, v8, by go_num, by omega, ⟨?_, ?_, ?_⟩⟩
        · rw [SN.it.1]
          exact X8.it.1
        · rw [SN.it.2]
          exact ⟨m0, m1, m2, m3, mp, mc.later KB (by omega), by
            rw [show N + (costF (fs.take j) + (h, d).2.length + 1) = N + costF (fs.take j) + d.length + 1 from by show N + (costF (fs.take j) + d.length + 1) = _; omega]
            exact mb⟩
        · exact KQ5.it.next KB (fun k e _ => NEW.it k (by have := HBB.it; omega))
      case measure => simp [natOfU]; omega
end
end Go.Proofs.YtbbldkldgjmmgaaGreatDoor
