/-
  LaneFrames
-/
import Derived.Test.YtccbhmmonaaikaaDoorLnH
import Derived.Test.YtccbhmmonaaikaaDoorLnR2
import Derived.Test.YtccbhmmonaaikaaDoorFrameH
namespace Go.Proofs.YtccbhmmonaaikaaDoor
open Go.RowKit

variable {A : Nat → Addr} {w w' w0 : World}

theorem sh_cases {t : Tk} (h : mayT t = 0) : ∃ n : Nat, t.k = n ∧ t.k.toNat = n ∧ (n = 1 ∨ n = 2 ∨ n = 3 ∨ n = 4 ∨ n = 5 ∨ n = 6 ∨ n = 7) := by
  have := may_range h
  exact ⟨t.k.toNat, by omega, rfl, by omega⟩
theorem fr6_hd5 (t : Tk) : ∃ ty fl s v : Int, fr6 t = fv6 ty fl s v ∧ hd5 t = hv5 ty fl s v ∧ (0 ≤ ty ∧ ty ≤ 3) ∧ (0 ≤ fl ∧ fl ≤ 8) ∧ (mayT t = 0 → ty ≠ 0 ∧ s = t.s ∧ v = t.v ∧ ty = shF t.k.toNat ∧ fl = shG t.k.toNat) := by
  by_cases h : mayT t = 0
  · refine ⟨_, _, _, _, by rw [fr6, if_pos h], by rw [hd5, if_pos h], ?_, ?_, fun _ => ⟨?_, rfl, rfl, rfl, rfl⟩⟩
    all_goals
      obtain ⟨n, _, e, hn⟩ := sh_cases h
      rw [e]
      rcases hn with rfl | rfl | rfl | rfl | rfl | rfl | rfl <;> decide
  · exact ⟨0, 0, 0, 0, by rw [fr6, if_neg h], by rw [hd5, if_neg h], by omega, by omega, fun h' => absurd h' h⟩
/-- unlike tickets that may be stand for unlike frames -/
theorem sh_inj {t u : Tk} (h : mayT t = 0) (h' : mayT u = 0) : (t.k = u.k ∧ (t.s : Int) = u.s ∧ (t.v : Int) = u.v) ↔ ((0 : Int) = 0 ∧ shF t.k.toNat = shF u.k.toNat ∧ shG t.k.toNat = shG u.k.toNat ∧ (t.s : Int) = u.s ∧ (t.v : Int) = u.v) := by
  obtain ⟨n, e1, e2, hn⟩ := sh_cases h
  obtain ⟨m, e3, e4, hm⟩ := sh_cases h'
  rw [e1, e3, Int.toNat_natCast, Int.toNat_natCast]
  constructor
  · rintro ⟨a, b, c⟩
    have : n = m := by omega
    subst this
    exact ⟨rfl, rfl, rfl, b, c⟩
  · rintro ⟨_, a, b, c, d⟩
    refine ⟨?_, c, d⟩
    rcases hn with rfl | rfl | rfl | rfl | rfl | rfl | rfl <;> rcases hm with rfl | rfl | rfl | rfl | rfl | rfl | rfl <;> first | rfl | (exfalso; revert a; decide) | (exfalso; revert b; decide)
theorem chk_lane {t : Tk} (h : mayT t = 0) (most : Int) : chk 0 (shF t.k.toNat) (shG t.k.toNat) t.s t.v most = 0 := by
  obtain ⟨n, e1, e2, hn⟩ := sh_cases h
  obtain ⟨k, s, v⟩ := t
  simp only at e1 e2 ⊢
  subst e1
  have h1 : (s = 0 ↔ (5 : Int) ≤ n) ∧ (n = 4 → v = 0) ∧ (n = 7 → v ≤ 2) := by
    unfold mayT at h
    simp only at h
    rw [if_neg (by omega)] at h
    split at h
    · cases h
    · rename_i a
      split at h
      · cases h
      · rename_i b
        refine ⟨by omega, fun e => ?_, fun e => ?_⟩ <;> subst e <;> omega
  obtain ⟨h1, h2, h3⟩ := h1
  rw [e2]
  clear e2 h
  unfold chk
  rw [if_neg (by simp)]
  rcases hn with rfl | rfl | rfl | rfl | rfl | rfl | rfl
  · have hs : ((s : Int) != 0) = true := by simp; omega
    rw [if_neg (by decide), if_neg (by decide), hs, if_neg (by decide), if_neg (by rw [show lenOk (shF 1) (shG 1) v most = true from rfl]; simp)]
  · have hs : ((s : Int) != 0) = true := by simp; omega
    rw [if_neg (by decide), if_neg (by decide), hs, if_neg (by decide), if_neg (by rw [show lenOk (shF 2) (shG 2) v most = true from rfl]; simp)]
  · have hs : ((s : Int) != 0) = true := by simp; omega
    rw [if_neg (by decide), if_neg (by decide), hs, if_neg (by decide), if_neg (by rw [show lenOk (shF 3) (shG 3) v most = true from rfl]; simp)]
  · have hs : ((s : Int) != 0) = true := by simp; omega
    rw [h2 rfl]
    rw [if_neg (by decide), if_neg (by decide), hs, if_neg (by decide), if_neg (by rw [show lenOk (shF 4) (shG 4) ((0 : Nat) : Int) most = true from rfl]; simp)]
  · have hs : ((s : Int) != 0) = false := by simp; omega
    rw [if_neg (by decide), if_neg (by decide), hs, if_neg (by decide), if_neg (by rw [show lenOk (shF 5) (shG 5) v most = true from rfl]; simp)]
  · have hs : ((s : Int) != 0) = false := by simp; omega
    rw [if_neg (by decide), if_neg (by decide), hs, if_neg (by decide), if_neg (by rw [show lenOk (shF 6) (shG 6) v most = true from rfl]; simp)]
  · have hs : ((s : Int) != 0) = false := by simp; omega
    have hv : decide ((v : Int) ≤ 2) = true := by have := h3 rfl; simp; omega
    rw [if_neg (by decide), if_neg (by decide), hs, if_neg (by decide), if_neg (by rw [show lenOk (shF 7) (shG 7) v most = decide ((v : Int) ≤ 2) from rfl, hv]; simp)]

set_option maxRecDepth 100000 in
theorem hd_neq (w : World) (v v2 t t2 f f2 s s2 l l2 : Int) : (binOp .neq 52 (.agg #[.int .u8 v, .int .u8 t, .int .u16 f, .int .u32 s, .int .u32 l]) (.agg #[.int .u8 v2, .int .u8 t2, .int .u16 f2, .int .u32 s2, .int .u32 l2])).run Tryd.prog w = .ok (.bool (!decide (v = v2 ∧ t = t2 ∧ f = f2 ∧ s = s2 ∧ l = l2))) w := by
  have hst : Tryd.prog.stoodInHeld 52 = false := by kernel_rfl
  have hfo : Tryd.prog.underlying 52 = some (.struct (Tryd.prog.fieldsOf 52)) := by kernel_rfl
  have h := run_equalIn_agg (P := Tryd.prog) (w := w) 9999 52 #[.int .u8 v, .int .u8 t, .int .u16 f, .int .u32 s, .int .u32 l] #[.int .u8 v2, .int .u8 t2, .int .u16 f2, .int .u32 s2, .int .u32 l2] hfo hst
  rw [run_neq_struct, h]
  clear h hst hfo
  simp only [Program.fieldsOf, Tryd.underlying52]
  by_cases e0 : v = v2
  · by_cases e1 : t = t2
    · by_cases e2 : f = f2
      · by_cases e3 : s = s2
        · by_cases e4 : l = l2
          · simp [Op.eqFields, go_sem, e0, e1, e2, e3, e4]
          · simp [Op.eqFields, go_sem, e0, e1, e2, e3, e4]
        · simp [Op.eqFields, go_sem, e0, e1, e2, e3]
      · simp [Op.eqFields, go_sem, e0, e1, e2]
    · simp [Op.eqFields, go_sem, e0, e1]
  · simp [Op.eqFields, go_sem, e0]
/-- the world of LaneFrames -/
structure Lf (A : Nat → Addr) (w0 : World) (pa pb pf pg : Nat) (a b : Tk) (W : World) : Prop where
  s : St11 A W
  l : Lawful W
  k : Keeps Nowhere w0 W
  ca : Cells W pa 30 (tcells a)
  cb : Cells W pb 30 (tcells b)
  cf : Cells W pf 57 (fr6 a)
  cg : Cells W pg 57 (fr6 b)
theorem Lf.quiet {pa pb pf pg : Nat} {a b : Tk} (h : Aside (Lf A w0 pa pb pf pg a b w)) (k : Keeps Nowhere w w') : Aside (Lf A w0 pa pb pf pg a b w') :=
  ⟨⟨h.it.s.quiet k, h.it.l.later k.bel, h.it.k.trans k, h.it.ca.later k (fun x => x), h.it.cb.later k (fun x => x), h.it.cf.later k (fun x => x), h.it.cg.later k (fun x => x)⟩⟩

set_option maxHeartbeats 2000000 in
theorem laneFrames_law {A : Nat → Addr} (a b : Tk) (most : Int) (w : World) (h : St11 A w ∧ Lawful w) (ha : a.Wide) (hb : b.Wide) :
    Calls Tryd.prog 6 #[tkv a.k a.s a.v, tkv b.k b.s b.v, .int .i64 most] w fun e w' => e = .returned (.bool true) ∧ Below w.heap.size w w' := by
  obtain ⟨W0, hW0⟩ : ∃ W0, W0 = (w.alloc (tbox a.k a.s a.v)).alloc (tbox b.k b.s b.v) := ⟨_, rfl⟩
  have K0 : Keeps Nowhere w W0 := by rw [hW0]; exact ((Keeps.refl _ _).alloc _).alloc _
  have A0 : Aside (Cells W0 w.heap.size 30 (tcells a)) := ⟨by rw [hW0]; exact (tbox_new w _ _ _).later (S := Nowhere) ((Keeps.refl _ _).alloc _) (fun x => x)⟩
  have B0 : Aside (Cells W0 (w.heap.size + 1) 30 (tcells b)) := ⟨by
    have h := tbox_new (w.alloc (tbox a.k a.s a.v)) b.k b.s b.v
    rw [World.size_alloc] at h
    rw [hW0]; exact h⟩
  have S0 := Aside.mk (And.intro (h.1.quiet K0) (h.2.later K0.bel))
  have KK0 := Aside.mk K0
  have FX := Aside.mk (fixed_ok S0.it.1)
  have HA := Aside.mk ha
  have HB := Aside.mk hb
  clear h K0 ha hb
  go_enter Tryd.func6, Tryd.ntmps6
  go_upto_region 1 with fail
  rw [← hW0]
  clear hW0
  go_upto_region 3 with (first | (go_at_call 8; refine FX.it.mono ?_; rintro e w1 ⟨rfl, k1⟩) | fail)
  obtain ⟨b0, b1, b2⟩ := TB.of (A0.it.later k1.it (fun x => x))
  have FR := Aside.mk (frameR (w := w1) a)
  obtain ⟨ty, fl, s, v, e6, e5, hty, hfl, hmm⟩ := fr6_hd5 a
  rw [e5] at FR
  go_upto_region 4 with (first | (go_at_call 21; refine FR.it.mono ?_; rintro e w2 ⟨rfl, k2⟩) | fail)
  have K2 := Aside.mk (k1.it.trans k2.it)
  obtain ⟨W3, hW3⟩ : ∃ W3, W3 = w2.alloc (.cells #[.int .u8 0, .int .u8 ty, .int .u16 fl, .int .u32 s, .int .u32 v] 52) := ⟨_, rfl⟩
  rw [show w2.alloc (.cells #[.int .u8 0, .int .u8 ty, .int .u16 fl, .int .u32 s, .int .u32 v] 52) = W3 from hW3.symm]
  have K3 : Aside (Keeps Nowhere W0 W3) := ⟨by rw [hW3]; exact K2.it.alloc _⟩
  have H3 : Aside (Cells W3 w2.heap.size 52 (hv5 ty fl s v)) := ⟨by rw [hW3]; exact Cells.new _ _ _⟩
  obtain ⟨b0, b1, b2⟩ := TB.of (A0.it.later K3.it (fun x => x))
  have FA := Aside.mk (frameT (A := A) a HA.it (S0.it.1.quiet K3.it))
  rw [e6] at FA
  clear hW3 FR FX k1 k2
  go_upto_region 5 with (first | (go_at_call 22; refine FA.it.mono ?_; rintro e w4 ⟨x4, rfl, hx4, k4⟩) | fail)
  obtain ⟨W5, hW5⟩ : ∃ W5, W5 = w4.alloc (fbox6 ty fl s v) := ⟨_, rfl⟩
  rw [show w4.alloc (.cells #[.int .u8 0, .int .u8 ty, .int .u16 fl, .int .u32 s, .int .u32 v, .slice none 0 0] 57) = W5 from hW5.symm]
  have K5 : Aside (Keeps Nowhere W0 W5) := ⟨by rw [hW5]; exact (K3.it.trans k4.it).alloc _⟩
  have F5 : Aside (Cells W5 w4.heap.size 57 (fv6 ty fl s v)) := ⟨by rw [hW5]; exact Cells.new _ _ _⟩
  have H5 : Aside (Cells W5 w2.heap.size 52 (hv5 ty fl s v)) := ⟨by rw [hW5]; exact H3.it.later (k4.it.alloc _) (fun x => x)⟩
  have CD := Aside.mk (code_of (S0.it.1.quiet K5.it).s hx4)
  have y0 : W5.cell? ⟨w4.heap.size, 0, none⟩ = some (.int .u8 0) := by rw [F5.it.cell]; rfl
  have y1 : W5.cell? ⟨w4.heap.size, 1, none⟩ = some (.int .u8 ty) := by rw [F5.it.cell]; rfl
  have y2 : W5.cell? ⟨w4.heap.size, 2, none⟩ = some (.int .u16 fl) := by rw [F5.it.cell]; rfl
  have y3 : W5.cell? ⟨w4.heap.size, 3, none⟩ = some (.int .u32 s) := by rw [F5.it.cell]; rfl
  have y4 : W5.cell? ⟨w4.heap.size, 4, none⟩ = some (.int .u32 v) := by rw [F5.it.cell]; rfl
  have y5 : W5.cell? ⟨w4.heap.size, 5, none⟩ = some (.slice none 0 0) := by rw [F5.it.cell]; rfl
  have z0 : W5.cell? ⟨w2.heap.size, 0, none⟩ = some (.int .u8 0) := by rw [H5.it.cell]; rfl
  have z1 : W5.cell? ⟨w2.heap.size, 1, none⟩ = some (.int .u8 ty) := by rw [H5.it.cell]; rfl
  have z2 : W5.cell? ⟨w2.heap.size, 2, none⟩ = some (.int .u16 fl) := by rw [H5.it.cell]; rfl
  have z3 : W5.cell? ⟨w2.heap.size, 3, none⟩ = some (.int .u32 s) := by rw [H5.it.cell]; rfl
  have z4 : W5.cell? ⟨w2.heap.size, 4, none⟩ = some (.int .u32 v) := by rw [H5.it.cell]; rfl
  have NQ := fun w => hd_neq w 0 0 ty ty fl fl s s v v
  simp only [and_self, decide_true, Bool.not_true] at NQ
  clear hW5 H3 H5 FA k4 b0 b1 b2
  go_upto_region 7 with (first | (go_at_call 23; refine CD.it.mono ?_; rintro e w6 ⟨rfl, hw6⟩; subst hw6) | fail)
  obtain ⟨b0, b1, b2⟩ := TB.of (B0.it.later K5.it (fun x => x))
  have FB' := Aside.mk (frameT (A := A) b HB.it (S0.it.1.quiet K5.it))
  obtain ⟨tyb, flb, sb, vb, e6b, e5b, htyb, hflb, hmb⟩ := fr6_hd5 b
  rw [e6b] at FB'
  clear y0 y1 y2 y3 y4 y5 z0 z1 z2 z3 z4 NQ CD
  go_upto_region 8 with (first | (go_at_call 22; refine FB'.it.mono ?_; rintro e w8 ⟨x8, rfl, hx8, k8⟩) | fail)
  obtain ⟨W9, hW9⟩ : ∃ W9, W9 = w8.alloc (fbox6 tyb flb sb vb) := ⟨_, rfl⟩
  rw [show w8.alloc (.cells #[.int .u8 0, .int .u8 tyb, .int .u16 flb, .int .u32 sb, .int .u32 vb, .slice none 0 0] 57) = W9 from hW9.symm]
  have K9 : Keeps Nowhere w6 W9 := by rw [hW9]; exact k8.it.alloc _
  have X9 : Aside (Lf A w w.heap.size (w.heap.size + 1) w4.heap.size w8.heap.size a b W9) := ⟨by
    have kk := K5.it.trans K9
    refine ⟨S0.it.1.quiet kk, S0.it.2.later kk.bel, KK0.it.trans kk, A0.it.later kk (fun x => x), B0.it.later kk (fun x => x), ?_, ?_⟩
    · rw [e6]; exact F5.it.later K9 (fun x => x)
    · rw [e6b, hW9]; exact Cells.new _ _ _⟩
  clear hW9 K9 k8 FB' F5 b0 b1 b2
  by_cases hma : mayT a = 0
  · rw [hma] at hx4
    obtain rfl := Coded.zero hx4
    by_cases hmb' : mayT b = 0
    · rw [hmb'] at hx8
      obtain rfl := Coded.zero hx8
      obtain ⟨ht1, hs1, hv1, ht2, hf2⟩ := hmm hma
      obtain ⟨ht3, hs3, hv3, ht4, hf4⟩ := hmb hmb'
      have BY := bytes_any (A := A) 0 ty fl s v (.slice none 0 0) [] W9 X9.it.s.s (OwnB.rd (B := 0) (World.ownsRow_nil _ _ _ _)) (by decide) hfl.1 (by omega) (by omega) (by have := HA.it.s1; omega) (by omega) (by have := HA.it.v1; omega)
      have eB : bE ty v ([] : List Int).length = 0 := by rw [bE, if_pos]; simp [szH, ht1]
      have eO : (bO 0 ty fl s v []).length = 12 := by rw [bO, if_pos (by simp [szH, ht1])]; rfl
      rw [eB] at BY
      have BB := Aside.mk BY
      have EO := Aside.mk eO
      have SI : Aside (∀ W, (binOp .eql 30 (.agg #[.int .i64 a.k, .int .u32 a.s, .int .u32 a.v]) (.agg #[.int .i64 b.k, .int .u32 b.s, .int .u32 b.v])).run Tryd.prog W = .ok (.bool (decide (a.k = b.k ∧ (a.s : Int) = b.s ∧ (a.v : Int) = b.v))) W ∧ (binOp .eql 52 (.agg #[.int .u8 0, .int .u8 ty, .int .u16 fl, .int .u32 s, .int .u32 v]) (.agg #[.int .u8 0, .int .u8 tyb, .int .u16 flb, .int .u32 sb, .int .u32 vb])).run Tryd.prog W = .ok (.bool (decide (a.k = b.k ∧ (a.s : Int) = b.s ∧ (a.v : Int) = b.v))) W) := ⟨fun W => ⟨tk_eql W _ _ _ _ _ _, by
        rw [hd_eql]
        exact congrArg (fun z => Result.ok (Value.bool z) W) (decide_eq_decide.2 (by rw [ht2, hf2, hs1, hv1, ht4, hf4, hs3, hv3]; exact (sh_inj hma hmb').symm))⟩⟩
      have Q1 := fun W => (SI.it W).1
      have Q2 := fun W => (SI.it W).2
      obtain ⟨qq, hqq⟩ : ∃ qq, qq = decide (a.k = b.k ∧ (a.s : Int) = b.s ∧ (a.v : Int) = b.v) := ⟨_, rfl⟩
      rw [← hqq] at Q1 Q2
      have CX : Aside (∀ M W, Aside (Lf A w w.heap.size (w.heap.size + 1) w4.heap.size w8.heap.size a b W) → Calls Tryd.prog 25 #[hdr 0 ty fl s v, .int .i64 M] W fun e w' => e = .returned .nilIface ∧ Aside (Lf A w w.heap.size (w.heap.size + 1) w4.heap.size w8.heap.size a b w')) := ⟨fun M W X => by
        refine (check_any 0 ty fl s v M W X.it.s.s X.it.l (by omega) (by omega) hfl.1 (by omega) (by have := HA.it.v1; omega)).mono ?_
        rintro e w' ⟨⟨ev, rfl, hv⟩, hb⟩
        have := chk_lane hma M
        rw [← ht2, ← hf2, ← hs1, ← hv1] at this
        rw [this] at hv
        obtain rfl := Coded.zero hv
        exact ⟨rfl, Lf.quiet X (Keeps.ofBelow hb)⟩⟩
      have CL : Aside (∀ W, Aside (Lf A w w.heap.size (w.heap.size + 1) w4.heap.size w8.heap.size a b W) → (W.cell? ⟨w.heap.size, 0, none⟩ = some (.int .i64 a.k) ∧ W.cell? ⟨w.heap.size, 1, none⟩ = some (.int .u32 a.s) ∧ W.cell? ⟨w.heap.size, 2, none⟩ = some (.int .u32 a.v)) ∧ (W.cell? ⟨w.heap.size + 1, 0, none⟩ = some (.int .i64 b.k) ∧ W.cell? ⟨w.heap.size + 1, 1, none⟩ = some (.int .u32 b.s) ∧ W.cell? ⟨w.heap.size + 1, 2, none⟩ = some (.int .u32 b.v)) ∧
          (W.cell? ⟨w4.heap.size, 0, none⟩ = some (.int .u8 0) ∧ W.cell? ⟨w4.heap.size, 1, none⟩ = some (.int .u8 ty) ∧ W.cell? ⟨w4.heap.size, 2, none⟩ = some (.int .u16 fl) ∧ W.cell? ⟨w4.heap.size, 3, none⟩ = some (.int .u32 s) ∧ W.cell? ⟨w4.heap.size, 4, none⟩ = some (.int .u32 v) ∧ W.cell? ⟨w4.heap.size, 5, none⟩ = some (.slice none 0 0)) ∧
          (W.cell? ⟨w8.heap.size, 0, none⟩ = some (.int .u8 0) ∧ W.cell? ⟨w8.heap.size, 1, none⟩ = some (.int .u8 tyb) ∧ W.cell? ⟨w8.heap.size, 2, none⟩ = some (.int .u16 flb) ∧ W.cell? ⟨w8.heap.size, 3, none⟩ = some (.int .u32 sb) ∧ W.cell? ⟨w8.heap.size, 4, none⟩ = some (.int .u32 vb))) := ⟨fun W X => by
        have hf := X.it.cf
        have hg := X.it.cg
        rw [e6] at hf
        rw [e6b] at hg
        have ta := TB.of X.it.ca
        have tb := TB.of X.it.cb
        exact ⟨⟨ta.c0, ta.c1, ta.c2⟩, ⟨tb.c0, tb.c1, tb.c2⟩, ⟨by rw [hf.cell]; rfl, by rw [hf.cell]; rfl, by rw [hf.cell]; rfl, by rw [hf.cell]; rfl, by rw [hf.cell]; rfl, by rw [hf.cell]; rfl⟩, by rw [hg.cell]; rfl, by rw [hg.cell]; rfl, by rw [hg.cell]; rfl, by rw [hg.cell]; rfl, by rw [hg.cell]; rfl⟩⟩
      obtain ⟨_, _, ⟨f0, f1, f2, f3, f4, f5⟩, _⟩ := CL.it W9 X9
      clear hma hmb' ht1 hs1 hv1 ht2 hf2 ht3 hs3 hv3 ht4 hf4 hx4 hx8 SI BY eB eO hqq hmm hmb e5 e5b e6 e6b hty hfl htyb hflb
      go_upto_region 11 with (first | (go_at_call 24; refine BB.it.mono ?_; rintro e w10 ⟨x10, ev10, rfl, hv10, o10, k10⟩) | fail)
      obtain rfl := Coded.zero hv10.it
      obtain ⟨xp, xc, hxs⟩ := o10.it.shape
      rw [EO.it] at hxs
      subst hxs
      have X10 := Lf.quiet X9 (Keeps.ofBelow k10)
      have X10d := Lf.quiet X10 (Keeps.refl _ w10).drew
      clear f0 f1 f2 f3 f4 f5 hv10 o10 k10 BB EO
      by_cases hm1 : most < 1
      · have mx : max most 1 = 1 := by omega
        go_region_held3 (fun W => (W.cell? ⟨w.heap.size, 0, none⟩ = some (.int .i64 a.k) ∧ W.cell? ⟨w.heap.size, 1, none⟩ = some (.int .u32 a.s) ∧ W.cell? ⟨w.heap.size, 2, none⟩ = some (.int .u32 a.v)) ∧ (W.cell? ⟨w.heap.size + 1, 0, none⟩ = some (.int .i64 b.k) ∧ W.cell? ⟨w.heap.size + 1, 1, none⟩ = some (.int .u32 b.s) ∧ W.cell? ⟨w.heap.size + 1, 2, none⟩ = some (.int .u32 b.v)) ∧ (W.cell? ⟨w4.heap.size, 0, none⟩ = some (.int .u8 0) ∧ W.cell? ⟨w4.heap.size, 1, none⟩ = some (.int .u8 ty) ∧ W.cell? ⟨w4.heap.size, 2, none⟩ = some (.int .u16 fl) ∧ W.cell? ⟨w4.heap.size, 3, none⟩ = some (.int .u32 s) ∧ W.cell? ⟨w4.heap.size, 4, none⟩ = some (.int .u32 v) ∧ W.cell? ⟨w4.heap.size, 5, none⟩ = some (.slice none 0 0)) ∧ (W.cell? ⟨w8.heap.size, 0, none⟩ = some (.int .u8 0) ∧ W.cell? ⟨w8.heap.size, 1, none⟩ = some (.int .u8 tyb) ∧ W.cell? ⟨w8.heap.size, 2, none⟩ = some (.int .u16 flb) ∧ W.cell? ⟨w8.heap.size, 3, none⟩ = some (.int .u32 sb) ∧ W.cell? ⟨w8.heap.size, 4, none⟩ = some (.int .u32 vb))) (exact CL.it _ (by with_reducible assumption)) (first
          | (go_at_call 25; with_reducible refine (CX.it _ _ (by with_reducible assumption)).mono ?_; rintro e wA ⟨rfl, XA⟩)
          | fail)
        go_wp2
        go_ret
        exact ⟨by simp, XA.it.k.bel⟩
      · have mx : max most 1 = most := by omega
        go_region_held3 (fun W => (W.cell? ⟨w.heap.size, 0, none⟩ = some (.int .i64 a.k) ∧ W.cell? ⟨w.heap.size, 1, none⟩ = some (.int .u32 a.s) ∧ W.cell? ⟨w.heap.size, 2, none⟩ = some (.int .u32 a.v)) ∧ (W.cell? ⟨w.heap.size + 1, 0, none⟩ = some (.int .i64 b.k) ∧ W.cell? ⟨w.heap.size + 1, 1, none⟩ = some (.int .u32 b.s) ∧ W.cell? ⟨w.heap.size + 1, 2, none⟩ = some (.int .u32 b.v)) ∧ (W.cell? ⟨w4.heap.size, 0, none⟩ = some (.int .u8 0) ∧ W.cell? ⟨w4.heap.size, 1, none⟩ = some (.int .u8 ty) ∧ W.cell? ⟨w4.heap.size, 2, none⟩ = some (.int .u16 fl) ∧ W.cell? ⟨w4.heap.size, 3, none⟩ = some (.int .u32 s) ∧ W.cell? ⟨w4.heap.size, 4, none⟩ = some (.int .u32 v) ∧ W.cell? ⟨w4.heap.size, 5, none⟩ = some (.slice none 0 0)) ∧ (W.cell? ⟨w8.heap.size, 0, none⟩ = some (.int .u8 0) ∧ W.cell? ⟨w8.heap.size, 1, none⟩ = some (.int .u8 tyb) ∧ W.cell? ⟨w8.heap.size, 2, none⟩ = some (.int .u16 flb) ∧ W.cell? ⟨w8.heap.size, 3, none⟩ = some (.int .u32 sb) ∧ W.cell? ⟨w8.heap.size, 4, none⟩ = some (.int .u32 vb))) (exact CL.it _ (by with_reducible assumption)) (first
          | (go_at_call 25; with_reducible refine (CX.it _ _ (by with_reducible assumption)).mono ?_; rintro e wA ⟨rfl, XA⟩)
          | fail)
        go_wp2
        go_ret
        exact ⟨by simp, XA.it.k.bel⟩
    · obtain ⟨ad, rfl⟩ := Coded.pos hx8 (by omega)
      clear hma hmb'
      go_wp2
      go_ret
      exact ⟨rfl, X9.it.k.bel⟩
  · obtain ⟨ad, rfl⟩ := Coded.pos hx4 (by omega)
    clear hma
    go_wp2
    go_ret
    exact ⟨rfl, X9.it.k.bel⟩
end Go.Proofs.YtccbhmmonaaikaaDoor
