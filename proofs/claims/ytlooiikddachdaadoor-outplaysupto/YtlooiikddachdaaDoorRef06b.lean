/-
  The document's buffer: Put
-/
import Derived.Test.YtlooiikddachdaaDoorRef06
namespace Go.Proofs.YtlooiikddachdaaDoor
open Go.RowKit

/-- within a call of the document's: what was d's, and what is new, is 0's; what was others' is 1's; the result's box, b, is 7's -/
def relab (own : Nat → Nat) (d n b : Nat) : Nat → Nat := fun k => if k < n then (if own k = d then 0 else 1) else if k = b then 7 else 0
section
variable {own own' own2 : Nat → Nat} {d d2 : Nat} {w w' w2 : World} {fv : Value} {rs : List (List Int)} {r : List Int} {I : Nat → Prop}
theorem relab_old {n b k : Nat} (h : k < n) (hd : own k = d) : relab own d n b k = 0 := by simp [relab, h, hd]
theorem relab_keeps {b : Nat} (hI : ∀ k, I k → 2 ≤ k) (h : Sn I (relab own d w.heap.size b) w own2 w2) : Keeps Nowhere w w2 :=
  h.keeps.mono (fun k e hk => by
    have := hI _ e
    simp only [relab, hk, if_true] at this
    split at this <;> omega)
theorem relab_back {b : Nat} (h : Sn I (relab own d w.heap.size b) w own2 w2) (g : Nat) (hg : own2 g ≠ 1) : give own w.heap.size d g = d := by
  by_cases hk : g < w.heap.size
  · rw [h.agree g hk] at hg
    simp only [relab, hk, if_true] at hg
    rw [give_old hk]
    by_cases e : own g = d
    · exact e
    · rw [if_neg e] at hg; exact absurd rfl hg
  · exact give_new (by omega)
theorem RdO.relab {v : Value} (b : Nat) (h : RdO own d w v r) : RdO (relab own d w.heap.size b) 0 w v r := ⟨h.1, fun g hg => ⟨(h.2 g hg).1, relab_old (h.2 g hg).1 (h.2 g hg).2⟩⟩
theorem RdL.relab (b : Nat) (h : RdL own d w fv rs) : RdL (relab own d w.heap.size b) 0 w fv rs := by
  obtain ⟨vs, h1, h2, h3, h4⟩ := h
  exact ⟨vs, h1, h2, fun g hg => ⟨(h3 g hg).1, relab_old (h3 g hg).1 (h3 g hg).2⟩, h4.map (fun _ _ h => h.relab b)⟩
theorem relab_new {n b k : Nat} (h : n ≤ k) (hb : k ≠ b) : relab own d n b k = 0 := by simp [relab, show ¬ k < n by omega, hb]
theorem relab_box {n b : Nat} (h : n ≤ b) : relab own d n b b = 7 := by simp [relab, show ¬ b < n by omega]

set_option maxHeartbeats 2000000 in
theorem refPut6_ok {A : Nat → Addr} (h : RdL own d w fv rs) (hs : Sents 108 codeVars A w) (v t f s l : Int) (dd : Value) (ns : List Int) (hr : Rd w dd ns) (hn : ns.length ≤ 140737488351300)
    (hf0 : 0 ≤ f) (hf1 : f ≤ 65535) (hs0 : 0 ≤ s) (hs1 : s ≤ 4294967295) (hl0 : 0 ≤ l) (hl1 : l ≤ 4294967295) (hok : (ns.length : Int) = szH t l) (hM : rs.length ≤ 4398046511102) :
    Calls Tryd.prog 19 #[.agg #[fv], frm v t f s l dd] w fun e w' => ∃ fv', e = .returned (.tuple #[.agg #[fv'], .int .i64 0]) ∧ Aside (RdL (give own w.heap.size d) d w' fv' (rs ++ [enc v t f s l ++ ns]) ∧ Keeps Nowhere w w') := by
  obtain ⟨fa, fc, hfv, hl, hc⟩ := h.at
  subst hfv
  obtain ⟨a, c, hd⟩ := hr.shape
  subst hd
  obtain ⟨W0, hW0⟩ : ∃ W0, W0 = ((w.alloc (.cells #[.slice fa rs.length fc] 28)).alloc (fbox v t f s l (.slice a ns.length c))).alloc (.cells #[.slice none 0 0] 28) := ⟨_, rfl⟩
  have k0 : Keeps Nowhere w W0 := by rw [hW0]; exact (((Keeps.refl _ _).alloc _).alloc _).alloc _
  have B0 := Aside.mk (refBytes_any (A := A) v t f s l (.slice a ns.length c) ns W0 (hs.later k0.bel) (hr.later k0.bel) hn hf0 hf1 hs0 hs1 hl0 hl1)
  have he : Aside (bE t l ns.length = 0) := ⟨if_pos hok⟩
  have ho : Aside (bO v t f s l ns = enc v t f s l ++ ns) := ⟨if_pos hok⟩
  rw [he.it, ho.it] at B0
  have C0 : Cells W0 w.heap.size 28 [.slice fa rs.length fc] := by rw [hW0]; exact ((Cells.new w _ _).later ((Keeps.refl Nowhere _).alloc _) (fun x => x)).later ((Keeps.refl Nowhere _).alloc _) (fun x => x)
  have C1 : Cells W0 (w.heap.size + 1) 37 [.int .u8 v, .int .u8 t, .int .u16 f, .int .u32 s, .int .u32 l, .slice a ns.length c] := by
    rw [hW0]
    have h := Cells.new (w.alloc (.cells #[.slice fa rs.length fc] 28)) 37 [.int .u8 v, .int .u8 t, .int .u16 f, .int .u32 s, .int .u32 l, .slice a ns.length c]
    rw [World.size_alloc] at h
    exact h.later ((Keeps.refl Nowhere _).alloc _) (fun x => x)
  have C2 : Cells W0 (w.heap.size + 2) 28 [.slice none 0 0] := by
    rw [hW0]
    have h := Cells.new ((w.alloc (.cells #[.slice fa rs.length fc] 28)).alloc (fbox v t f s l (.slice a ns.length c))) 28 [.slice none 0 0]
    rw [World.size_alloc, World.size_alloc] at h
    exact h
  obtain ⟨N, hN⟩ : ∃ N, Aside (N = ns.length) := ⟨_, ⟨rfl⟩⟩
  obtain ⟨nb, hnb⟩ : ∃ nb, Aside (nb = enc v t f s l ++ ns) := ⟨_, ⟨rfl⟩⟩
  obtain ⟨M, hMM⟩ : ∃ M, Aside (M = rs.length) := ⟨_, ⟨rfl⟩⟩
  rw [← hN.it, ← hMM.it] at hW0
  rw [← hN.it] at C1
  rw [← hN.it, ← hnb.it] at B0
  rw [← hMM.it] at C0 hl hM
  rw [← hN.it, ← hMM.it, ← hnb.it]
  have K0 := Aside.mk k0
  have y0 : W0.cell? ⟨w.heap.size + 1, 0, none⟩ = some (.int .u8 v) := by rw [C1.cell]; rfl
  have y1 : W0.cell? ⟨w.heap.size + 1, 1, none⟩ = some (.int .u8 t) := by rw [C1.cell]; rfl
  have y2 : W0.cell? ⟨w.heap.size + 1, 2, none⟩ = some (.int .u16 f) := by rw [C1.cell]; rfl
  have y3 : W0.cell? ⟨w.heap.size + 1, 3, none⟩ = some (.int .u32 s) := by rw [C1.cell]; rfl
  have y4 : W0.cell? ⟨w.heap.size + 1, 4, none⟩ = some (.int .u32 l) := by rw [C1.cell]; rfl
  have y5 : W0.cell? ⟨w.heap.size + 1, 5, none⟩ = some (.slice a N c) := by rw [C1.cell]; rfl
  have S0 : Aside (Sn (fun k => k = 3) (relab own d w.heap.size (w.heap.size + 2)) w (relab own d w.heap.size (w.heap.size + 2)) W0) := ⟨Sn.same k0⟩
  have HR := Aside.mk (h.relab (w.heap.size + 2))
  have D0 : Aside (CellsO (relab own d w.heap.size (w.heap.size + 2)) 0 W0 w.heap.size 28 [.slice fa M fc]) := ⟨C0, relab_new (Nat.le_refl _) (by omega)⟩
  have D2 : Aside (CellsO (relab own d w.heap.size (w.heap.size + 2)) 7 W0 (w.heap.size + 2) 28 [.slice none 0 0]) := ⟨C2, relab_box (by omega)⟩
  have C2' : Aside (w.heap.size + 2 < W0.heap.size) := ⟨C2.lt⟩
  have HM63 : (M : Int) ≤ 9223372036854775807 := by omega
  have HM := Aside.mk hM
  clear hs hr hn hf0 hf1 hs0 hs1 hl0 hl1 hok k0 C0 C1 C2 h hc hl hM
  go_enter Tryd.func19, Tryd.ntmps19
  go_upto_region 1 with fail
  rw [← hW0]
  clear hW0
  go_wp2_with (go_at_call 34; refine B0.it.mono ?_; rintro e w1 ⟨x, rfl, o1, b1⟩; have K1 : Aside (Keeps Nowhere W0 w1) := ⟨Keeps.ofBelow b1⟩; clear b1)
  have X1 : Aside (RdO (relab own d w.heap.size (w.heap.size + 2)) 0 w1 x nb) := ⟨o1.it.rdO (fun g hg => relab_new (Nat.le_trans K0.it.size hg) (by have := C2'.it; omega))⟩
  have S1 : Aside (Sn (fun k => k = 3) (relab own d w.heap.size (w.heap.size + 2)) w (relab own d w.heap.size (w.heap.size + 2)) w1) := ⟨S0.it.trans (Sn.same K1.it)⟩
  obtain ⟨xa, xc, hx⟩ := X1.it.shape
  subst hx
  obtain ⟨NB, hNB⟩ : ∃ NB, Aside (NB = nb.length) := ⟨_, ⟨rfl⟩⟩
  rw [← hNB.it] at X1 ⊢
  clear y0 y1 y2 y3 y4 y5 B0 o1
  go_loopw [8, 9] (fun o i wr => ∃ (k : Nat) (own2 : Nat → Nat), i = .int .i64 k ∧ k ≤ M ∧ (∃ a l c, o = .slice a l c) ∧ Aside (RowL own2 3 0 wr o (rs.take k) ∧ Sn (fun k => k = 3) (relab own d w.heap.size (w.heap.size + 2)) w1 own2 wr)) (fun _ i _ => M - (intOf i).toNat)
  case atStart => exact ⟨0, _, rfl, Nat.zero_le _, ⟨_, _, _, rfl⟩, ⟨RowL.nil _ _ _ _, Sn.refl _ _ _⟩⟩
  case round =>
    obtain ⟨k, own2, rfl, hk, ⟨o1, o2, o3, rfl⟩, X⟩ := hrel
    have S2 : Aside (Sn (fun k => k = 3) (relab own d w.heap.size (w.heap.size + 2)) w own2 wr) := ⟨S1.it.trans X.it.2⟩
    have SW : Aside (Sn (fun k => k = 3) (relab own d w.heap.size (w.heap.size + 2)) W0 own2 wr) := ⟨(Sn.same K1.it).trans X.it.2⟩
    have E0 : Aside (CellsO own2 0 wr w.heap.size 28 [.slice fa M fc]) := ⟨D0.it.sn SW.it (by decide)⟩
    have b0 : wr.cell? ⟨w.heap.size, 0, none⟩ = some (.slice fa M fc) := by rw [E0.it.1.cell]; rfl
    rcases Nat.eq_or_lt_of_le hk with rfl | hlt
    · have etk : Aside (rs.take k = rs) := ⟨by rw [hMM.it, List.take_length]⟩
      rw [etk.it] at X
      have X2 : Aside (RdO own2 0 wr (.slice xa NB xc) nb) := ⟨X1.it.sn X.it.2 (by decide)⟩
      have E2 : Aside (CellsO own2 7 wr (w.heap.size + 2) 28 [.slice none 0 0]) := ⟨D2.it.sn SW.it (by decide)⟩
      go_wp2_with (at_builtin; refine wpList_appendL rfl (.tmp 34) (.tmp 36) rfl rfl X.it.1 X2.it (by decide) (by have := HM.it; have := hMM.it; omega) rfl rfl ?_; intro q3 l3 c3 w3 X3; have E3 := Aside.mk (E2.it.sn X3.it.2 (by decide)); have z2 : w3.cell? ⟨w.heap.size + 2, 0, none⟩ = some (.slice none 0 0) := (by rw [E3.it.1.cell]; rfl); have fz := E3.it.1.frozen 0)
      have E4 := E3.it.1.setCell 0 (.slice q3 l3 c3)
      have z3 : (w3.setCell ⟨w.heap.size + 2, 0, none⟩ (.slice q3 l3 c3)).cell? ⟨w.heap.size + 2, 0, none⟩ = some (.slice q3 l3 c3) := by rw [E4.cell]; rfl
      refine bodyPost_ret (v := .tuple #[.agg #[.slice q3 l3 c3], .int .i64 0]) (by simp [results, Tryd.results19, go_sem, z3]) rfl ?_
      have S3 : Sn (fun k => k = 3) (relab own d w.heap.size (w.heap.size + 2)) w _ w3 := S2.it.trans X3.it.2
      have KN : Keeps Nowhere w w3 := relab_keeps (fun k e => by omega) S3
      have KS : Keeps (fun k => k = w.heap.size + 2) w3 (w3.setCell ⟨w.heap.size + 2, 0, none⟩ (.slice q3 l3 c3)) := (Keeps.refl _ _).setCell _ _ (fun _ => rfl)
      have hne : ∀ g, give own2 wr.heap.size 3 g = 3 ∨ give own2 wr.heap.size 3 g = 0 → give own w.heap.size d g = d := fun g hg => relab_back S3 g (by omega)
      refine ⟨_, rfl, ⟨?_, KN.next KS (fun k e hk => by omega)⟩⟩
      have R3 := X3.it.1.sn (I := fun k => k = 7) (own' := give own2 wr.heap.size 3) ⟨fun _ _ => rfl, KS.mono (fun k e _ => by rw [e]; exact E3.it.2)⟩ (by decide) (by decide)
      exact RowL.rdl R3 hne
    · obtain ⟨r, hr⟩ : ∃ r, rs[k]? = some r := ⟨_, List.getElem?_eq_getElem (by rw [← hMM.it]; exact hlt)⟩
      obtain ⟨a1, c1, hv, _, hat⟩ := (HR.it.sn S2.it (by decide)).at
      rw [← hMM.it] at hv
      injection hv with e1 _ e3
      subst e1 e3
      obtain ⟨g, o, v1, rfl, hce, hv1⟩ := hat k r hr
      obtain ⟨va, vc, rfl⟩ := hv1.shape
      have etk : Aside (rs.take (k + 1) = rs.take k ++ [r]) := ⟨take_next hr⟩
      have HV1 := Aside.mk hv1
      have i2 : (k : Int) < M := by omega
      have i3 : (0 : Int) ≤ k := by omega
      have i4 : (k : Int) + 1 ≤ 9223372036854775807 := by omega
      have HK : Aside ((rs.take k).length ≤ 4398046511103) := ⟨by have := HM.it; rw [List.length_take]; omega⟩
      obtain ⟨R, hR⟩ : ∃ R, Aside (R = r.length) := ⟨_, ⟨rfl⟩⟩
      rw [← hR.it] at hce HV1
      clear hr hat hv1 hk
      go_wp2_with (at_builtin; refine wpList_appendL rfl (.tmp 26) (.tmp 32) rfl rfl X.it.1 HV1.it (by decide) HK.it rfl rfl ?_; intro q3 l3 c3 w3 X3)
      all_goals first
        | (exfalso; omega)
        | skip
      go_roundw
      case rel => exact ⟨k + 1, _, by go_num, by omega, ⟨_, _, _, rfl⟩, ⟨by rw [etk.it]; exact X3.it.1, X.it.2.trans X3.it.2⟩⟩
      case measure => simp [intOf]; omega
end
end Go.Proofs.YtlooiikddachdaaDoor
