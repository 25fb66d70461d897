import Derived.Test.YtfphoaphdfhhiaaDoorOwnL
import Derived.Test.YtfphoaphdfhhiaaDoorOutE
import Derived.Test.YtfphoaphdfhhiaaDoorOutW
/-
  The document's buffer: Len, Put
-/
namespace Go.Proofs.YtfphoaphdfhhiaaDoor
open Go.RowKit

section
variable {own own' : Nat → Nat} {d d2 : Nat} {w w' : World} {fv : Value} {rs : List (List Int)} {r : List Int} {I : Nat → Prop}

theorem take_flat_next {k : Nat} (h : rs[k]? = some r) : (rs.take (k + 1)).flatten = (rs.take k).flatten ++ r := by
  rw [List.take_add_one, h]
  simp
theorem take_next {k : Nat} (h : rs[k]? = some r) : rs.take (k + 1) = rs.take k ++ [r] := by
  rw [List.take_add_one, h]
  rfl
theorem flat_take_le (rs : List (List Int)) (k : Nat) : (rs.take k).flatten.length ≤ rs.flatten.length := by
  conv => rhs; rw [← List.take_append_drop k rs, List.flatten_append, List.length_append]
  omega
set_option maxHeartbeats 1000000 in
theorem refLen6 (h : RdL own d w fv rs) (hT : rs.flatten.length ≤ 4398046511103) (hML : rs.length ≤ 4398046511103) :
    Calls Tryd.prog 17 #[.agg #[fv]] w fun e w' => e = .returned (.int .i64 rs.flatten.length) ∧ Aside (Keeps Nowhere w w') := by
  obtain ⟨a, c, hv, hl, hc⟩ := h.at
  subst hv
  obtain ⟨M, hM⟩ : ∃ M, Aside (M = rs.length) := ⟨_, ⟨rfl⟩⟩
  rw [← hM.it] at hl ⊢
  obtain ⟨W0, hW0⟩ : ∃ W0, W0 = w.alloc (.cells #[.slice a M c] 28) := ⟨_, rfl⟩
  have K0 : Aside (Keeps Nowhere w W0) := ⟨by rw [hW0]; exact (Keeps.refl _ _).alloc _⟩
  have b0 : W0.cell? ⟨w.heap.size, 0, none⟩ = some (.slice a M c) := by
    have : Cells W0 w.heap.size 28 [.slice a M c] := by rw [hW0]; exact Cells.new w _ _
    rw [this.cell]; rfl
  have HC := Aside.mk hc
  have HT := Aside.mk hT
  have HM63 : (M : Int) ≤ 9223372036854775807 := by have h1 := hM.it; omega
  clear h hc hT hl hML
  go_enter Tryd.func17, Tryd.ntmps17
  go_upto_region 1 with fail
  rw [← hW0]
  clear hW0
  go_wp2_with fail
  go_loopw [3, 4] (fun n i wr => ∃ k : Nat, i = .int .i64 k ∧ k ≤ M ∧ n = .int .i64 (rs.take k).flatten.length ∧ wr = W0) (fun _ i _ => M - (intOf i).toNat)
  case atStart => exact ⟨0, rfl, Nat.zero_le _, by simp, rfl⟩
  case round =>
    obtain ⟨k, rfl, hk, rfl, rfl⟩ := hrel
    rcases Nat.eq_or_lt_of_le hk with rfl | hlt
    · have e1 : Aside ((rs.take k).flatten.length = rs.flatten.length) := ⟨by rw [hM.it, List.take_length]⟩
      rw [e1.it]
      go_wp2
      go_ret
      exact ⟨rfl, K0⟩
    · obtain ⟨r, hr⟩ : ∃ r, rs[k]? = some r := ⟨_, List.getElem?_eq_getElem (by rw [← hM.it]; exact hlt)⟩
      obtain ⟨g, o, v, rfl, hce, hv⟩ := HC.it k r hr
      obtain ⟨va, vc, rfl⟩ := hv.shape
      have hce' : wr.cell? ⟨g, o + k, none⟩ = some (.slice va r.length vc) := by
        rw [World.cell?_of_block (w := w) (K0.it.block g (World.block_lt_of_cell? w _ hce) (fun x => x))]; exact hce
      have hsum : Aside ((rs.take (k + 1)).flatten.length = (rs.take k).flatten.length + r.length) := ⟨by rw [take_flat_next hr, List.length_append]⟩
      have hle : Aside ((rs.take (k + 1)).flatten.length ≤ 4398046511103) := ⟨Nat.le_trans (flat_take_le _ _) HT.it⟩
      obtain ⟨T, hT⟩ : ∃ T, Aside (T = (rs.take k).flatten.length) := ⟨_, ⟨rfl⟩⟩
      obtain ⟨R, hR⟩ : ∃ R, Aside (R = r.length) := ⟨_, ⟨rfl⟩⟩
      rw [← hT.it, ← hR.it] at hsum
      rw [← hT.it]
      rw [← hR.it] at hce'
      have i1 : (T : Int) + R ≤ 9223372036854775807 := by have := hsum.it; have := hle.it; omega
      have i2 : (k : Int) < M := by omega
      have i3 : (0 : Int) ≤ k := by omega
      have i4 : (k : Int) + 1 ≤ 9223372036854775807 := by omega
      clear hr hce hv hk
      go_wp2
      all_goals first
        | (exfalso; omega)
        | skip
      go_roundw
      case rel => exact ⟨k + 1, by go_num, by omega, by rw [hsum.it]; go_num, by first | rfl | trivial⟩
      case measure => simp [intOf]; omega

set_option maxHeartbeats 1000000 in
theorem refPut6_bad {A : Nat → Addr} (fv : Value) (hfv : ∃ a n c, fv = .slice a n c) (hs : Sents 103 codeVars A w) (v t f s l : Int) (dd : Value) (ns : List Int) (hr : Rd w dd ns) (hn : ns.length ≤ 140737488351300)
    (hf0 : 0 ≤ f) (hf1 : f ≤ 65535) (hs0 : 0 ≤ s) (hs1 : s ≤ 4294967295) (hl0 : 0 ≤ l) (hl1 : l ≤ 4294967295) (hbad : ¬ (ns.length : Int) = szH t l) :
    Calls Tryd.prog 9 #[.agg #[fv], frm v t f s l dd] w fun e w' => e = .returned (.tuple #[.agg #[fv], .int .i64 15]) ∧ Aside (Keeps Nowhere w w') := by
  obtain ⟨fa, fn, fc, rfl⟩ := hfv
  obtain ⟨a, c, hd⟩ := hr.shape
  subst hd
  obtain ⟨W0, hW0⟩ : ∃ W0, W0 = ((w.alloc (.cells #[.slice fa fn fc] 28)).alloc (fbox v t f s l (.slice a ns.length c))).alloc (.cells #[.slice none 0 0] 28) := ⟨_, rfl⟩
  have k0 : Keeps Nowhere w W0 := by rw [hW0]; exact (((Keeps.refl _ _).alloc _).alloc _).alloc _
  have B0 := Aside.mk (refBytes_any (A := A) v t f s l (.slice a ns.length c) ns W0 (hs.later k0.bel) (hr.later k0.bel) hn hf0 hf1 hs0 hs1 hl0 hl1)
  have he : Aside (bE t l ns.length = 15) := ⟨if_neg hbad⟩
  rw [he.it] at B0
  have C0 : Cells W0 w.heap.size 28 [.slice fa fn fc] := by rw [hW0]; exact ((Cells.new w _ _).later ((Keeps.refl Nowhere _).alloc _) (fun x => x)).later ((Keeps.refl Nowhere _).alloc _) (fun x => x)
  have C1 : Cells W0 (w.heap.size + 1) 37 [.int .u8 v, .int .u8 t, .int .u16 f, .int .u32 s, .int .u32 l, .slice a ns.length c] := by
    rw [hW0]
    have h := Cells.new (w.alloc (.cells #[.slice fa fn fc] 28)) 37 [.int .u8 v, .int .u8 t, .int .u16 f, .int .u32 s, .int .u32 l, .slice a ns.length c]
    rw [World.size_alloc] at h
    exact h.later ((Keeps.refl Nowhere _).alloc _) (fun x => x)
  have C2 : Cells W0 (w.heap.size + 2) 28 [.slice none 0 0] := by
    rw [hW0]
    have h := Cells.new ((w.alloc (.cells #[.slice fa fn fc] 28)).alloc (fbox v t f s l (.slice a ns.length c))) 28 [.slice none 0 0]
    rw [World.size_alloc, World.size_alloc] at h
    exact h
  obtain ⟨N, hN⟩ : ∃ N, Aside (N = ns.length) := ⟨_, ⟨rfl⟩⟩
  rw [← hN.it] at hW0 C1 B0 ⊢
  have K0 := Aside.mk k0
  have D0 := Aside.mk C0
  have D2 := Aside.mk C2
  have y0 : W0.cell? ⟨w.heap.size + 1, 0, none⟩ = some (.int .u8 v) := by rw [C1.cell]; rfl
  have y1 : W0.cell? ⟨w.heap.size + 1, 1, none⟩ = some (.int .u8 t) := by rw [C1.cell]; rfl
  have y2 : W0.cell? ⟨w.heap.size + 1, 2, none⟩ = some (.int .u16 f) := by rw [C1.cell]; rfl
  have y3 : W0.cell? ⟨w.heap.size + 1, 3, none⟩ = some (.int .u32 s) := by rw [C1.cell]; rfl
  have y4 : W0.cell? ⟨w.heap.size + 1, 4, none⟩ = some (.int .u32 l) := by rw [C1.cell]; rfl
  have y5 : W0.cell? ⟨w.heap.size + 1, 5, none⟩ = some (.slice a N c) := by rw [C1.cell]; rfl
  clear hs hr hn hf0 hf1 hs0 hs1 hl0 hl1 hbad k0 C0 C1 C2
  go_enter Tryd.func9, Tryd.ntmps9
  go_upto_region 1 with fail
  rw [← hW0]
  clear hW0
  go_wp2_with (go_at_call 20; refine B0.it.mono ?_; rintro e w1 ⟨x, rfl, o1, b1⟩; have K1 : Aside (Keeps Nowhere W0 w1) := ⟨Keeps.ofBelow b1⟩; have z0 : w1.cell? ⟨w.heap.size, 0, none⟩ = some (.slice fa fn fc) := (by rw [(D0.it.later K1.it (fun x => x)).cell]; rfl); have E2 := Aside.mk (D2.it.later K1.it (fun x => x)); have z2 : w1.cell? ⟨w.heap.size + 2, 0, none⟩ = some (.slice none 0 0) := (by rw [E2.it.cell]; rfl); have fz := E2.it.frozen 0; clear b1)
  have E3 := E2.it.setCell 0 (.slice fa fn fc)
  have z3 : (w1.setCell ⟨w.heap.size + 2, 0, none⟩ (.slice fa fn fc)).cell? ⟨w.heap.size + 2, 0, none⟩ = some (.slice fa fn fc) := by rw [E3.cell]; rfl
  refine bodyPost_ret (v := .tuple #[.agg #[.slice fa fn fc], .int .i64 15]) (by simp [results, Tryd.results9, go_sem, z3]) rfl ?_
  refine ⟨rfl, ⟨(K0.it.trans K1.it).next (S' := fun k => k = w.heap.size + 2) ((Keeps.refl _ _).setCell _ _ (fun _ => rfl)) (fun k e hk => by omega)⟩⟩
end
end Go.Proofs.YtfphoaphdfhhiaaDoor

/-
  The document's buffer: Put
-/
namespace Go.Proofs.YtfphoaphdfhhiaaDoor
open Go.RowKit

/-- within a call of the document's: what was d's, and what is new, is 0's; what was others' is 1's; the result's box, b, is 7's -/
def relab (own : Nat → Nat) (d n b : Nat) : Nat → Nat := fun k => if k < n then (if own k = d then 0 else 1) else if k = b then 7 else 0
section
variable {own own' own2 : Nat → Nat} {d d2 : Nat} {w w' w2 : World} {fv : Value} {rs : List (List Int)} {r : List Int} {I : Nat → Prop}
theorem relab_old {n b k : Nat} (h : k < n) (hd : own k = d) : relab own d n b k = 0 := by simp [relab, h, hd]
theorem relab_keeps {b : Nat} (hI : ∀ k, I k → 2 ≤ k) (h : Sn I (relab own d w.heap.size b) w own2 w2) : Keeps Nowhere w w2 :=
  h.keeps.mono (fun k e hk => by
    have := hI _ e
    simp only [relab, hk, if_true] at this
    split at this <;> omega)
theorem relab_back {b : Nat} (h : Sn I (relab own d w.heap.size b) w own2 w2) (g : Nat) (hg : own2 g ≠ 1) : give own w.heap.size d g = d := by
  by_cases hk : g < w.heap.size
  · rw [h.agree g hk] at hg
    simp only [relab, hk, if_true] at hg
    rw [give_old hk]
    by_cases e : own g = d
    · exact e
    · rw [if_neg e] at hg; exact absurd rfl hg
  · exact give_new (by omega)
theorem RdO.relab {v : Value} (b : Nat) (h : RdO own d w v r) : RdO (relab own d w.heap.size b) 0 w v r := ⟨h.1, fun g hg => ⟨(h.2 g hg).1, relab_old (h.2 g hg).1 (h.2 g hg).2⟩⟩
theorem RdL.relab (b : Nat) (h : RdL own d w fv rs) : RdL (relab own d w.heap.size b) 0 w fv rs := by
  obtain ⟨vs, h1, h2, h3, h4⟩ := h
  exact ⟨vs, h1, h2, fun g hg => ⟨(h3 g hg).1, relab_old (h3 g hg).1 (h3 g hg).2⟩, h4.map (fun _ _ h => h.relab b)⟩
theorem relab_new {n b k : Nat} (h : n ≤ k) (hb : k ≠ b) : relab own d n b k = 0 := by simp [relab, show ¬ k < n by omega, hb]
theorem relab_box {n b : Nat} (h : n ≤ b) : relab own d n b b = 7 := by simp [relab, show ¬ b < n by omega]

set_option maxHeartbeats 2000000 in
theorem refPut6_ok {A : Nat → Addr} (h : RdL own d w fv rs) (hs : Sents 103 codeVars A w) (v t f s l : Int) (dd : Value) (ns : List Int) (hr : Rd w dd ns) (hn : ns.length ≤ 140737488351300)
    (hf0 : 0 ≤ f) (hf1 : f ≤ 65535) (hs0 : 0 ≤ s) (hs1 : s ≤ 4294967295) (hl0 : 0 ≤ l) (hl1 : l ≤ 4294967295) (hok : (ns.length : Int) = szH t l) (hM : rs.length ≤ 4398046511102) :
    Calls Tryd.prog 9 #[.agg #[fv], frm v t f s l dd] w fun e w' => ∃ fv', e = .returned (.tuple #[.agg #[fv'], .int .i64 0]) ∧ Aside (RdL (give own w.heap.size d) d w' fv' (rs ++ [enc v t f s l ++ ns]) ∧ Keeps Nowhere w w') := by
  obtain ⟨fa, fc, hfv, hl, hc⟩ := h.at
  subst hfv
  obtain ⟨a, c, hd⟩ := hr.shape
  subst hd
  obtain ⟨W0, hW0⟩ : ∃ W0, W0 = ((w.alloc (.cells #[.slice fa rs.length fc] 28)).alloc (fbox v t f s l (.slice a ns.length c))).alloc (.cells #[.slice none 0 0] 28) := ⟨_, rfl⟩
  have k0 : Keeps Nowhere w W0 := by rw [hW0]; exact (((Keeps.refl _ _).alloc _).alloc _).alloc _
  have B0 := Aside.mk (refBytes_any (A := A) v t f s l (.slice a ns.length c) ns W0 (hs.later k0.bel) (hr.later k0.bel) hn hf0 hf1 hs0 hs1 hl0 hl1)
  have he : Aside (bE t l ns.length = 0) := ⟨if_pos hok⟩
  have ho : Aside (bO v t f s l ns = enc v t f s l ++ ns) := ⟨if_pos hok⟩
  rw [he.it, ho.it] at B0
  have C0 : Cells W0 w.heap.size 28 [.slice fa rs.length fc] := by rw [hW0]; exact ((Cells.new w _ _).later ((Keeps.refl Nowhere _).alloc _) (fun x => x)).later ((Keeps.refl Nowhere _).alloc _) (fun x => x)
  have C1 : Cells W0 (w.heap.size + 1) 37 [.int .u8 v, .int .u8 t, .int .u16 f, .int .u32 s, .int .u32 l, .slice a ns.length c] := by
    rw [hW0]
    have h := Cells.new (w.alloc (.cells #[.slice fa rs.length fc] 28)) 37 [.int .u8 v, .int .u8 t, .int .u16 f, .int .u32 s, .int .u32 l, .slice a ns.length c]
    rw [World.size_alloc] at h
    exact h.later ((Keeps.refl Nowhere _).alloc _) (fun x => x)
  have C2 : Cells W0 (w.heap.size + 2) 28 [.slice none 0 0] := by
    rw [hW0]
    have h := Cells.new ((w.alloc (.cells #[.slice fa rs.length fc] 28)).alloc (fbox v t f s l (.slice a ns.length c))) 28 [.slice none 0 0]
    rw [World.size_alloc, World.size_alloc] at h
    exact h
  obtain ⟨N, hN⟩ : ∃ N, Aside (N = ns.length) := ⟨_, ⟨rfl⟩⟩
  obtain ⟨nb, hnb⟩ : ∃ nb, Aside (nb = enc v t f s l ++ ns) := ⟨_, ⟨rfl⟩⟩
  obtain ⟨M, hMM⟩ : ∃ M, Aside (M = rs.length) := ⟨_, ⟨rfl⟩⟩
  rw [← hN.it, ← hMM.it] at hW0
  rw [← hN.it] at C1
  rw [← hN.it, ← hnb.it] at B0
  rw [← hMM.it] at C0 hl hM
  rw [← hN.it, ← hMM.it, ← hnb.it]
  have K0 := Aside.mk k0
  have y0 : W0.cell? ⟨w.heap.size + 1, 0, none⟩ = some (.int .u8 v) := by rw [C1.cell]; rfl
  have y1 : W0.cell? ⟨w.heap.size + 1, 1, none⟩ = some (.int .u8 t) := by rw [C1.cell]; rfl
  have y2 : W0.cell? ⟨w.heap.size + 1, 2, none⟩ = some (.int .u16 f) := by rw [C1.cell]; rfl
  have y3 : W0.cell? ⟨w.heap.size + 1, 3, none⟩ = some (.int .u32 s) := by rw [C1.cell]; rfl
  have y4 : W0.cell? ⟨w.heap.size + 1, 4, none⟩ = some (.int .u32 l) := by rw [C1.cell]; rfl
  have y5 : W0.cell? ⟨w.heap.size + 1, 5, none⟩ = some (.slice a N c) := by rw [C1.cell]; rfl
  have S0 : Aside (Sn (fun k => k = 3) (relab own d w.heap.size (w.heap.size + 2)) w (relab own d w.heap.size (w.heap.size + 2)) W0) := ⟨Sn.same k0⟩
  have HR := Aside.mk (h.relab (w.heap.size + 2))
  have D0 : Aside (CellsO (relab own d w.heap.size (w.heap.size + 2)) 0 W0 w.heap.size 28 [.slice fa M fc]) := ⟨C0, relab_new (Nat.le_refl _) (by omega)⟩
  have D2 : Aside (CellsO (relab own d w.heap.size (w.heap.size + 2)) 7 W0 (w.heap.size + 2) 28 [.slice none 0 0]) := ⟨C2, relab_box (by omega)⟩
  have C2' : Aside (w.heap.size + 2 < W0.heap.size) := ⟨C2.lt⟩
  have HM63 : (M : Int) ≤ 9223372036854775807 := by omega
  have HM := Aside.mk hM
  clear hs hr hn hf0 hf1 hs0 hs1 hl0 hl1 hok k0 C0 C1 C2 h hc hl hM
  go_enter Tryd.func9, Tryd.ntmps9
  go_upto_region 1 with fail
  rw [← hW0]
  clear hW0
  go_wp2_with (go_at_call 20; refine B0.it.mono ?_; rintro e w1 ⟨x, rfl, o1, b1⟩; have K1 : Aside (Keeps Nowhere W0 w1) := ⟨Keeps.ofBelow b1⟩; clear b1)
  have X1 : Aside (RdO (relab own d w.heap.size (w.heap.size + 2)) 0 w1 x nb) := ⟨o1.it.rdO (fun g hg => relab_new (Nat.le_trans K0.it.size hg) (by have := C2'.it; omega))⟩
  have S1 : Aside (Sn (fun k => k = 3) (relab own d w.heap.size (w.heap.size + 2)) w (relab own d w.heap.size (w.heap.size + 2)) w1) := ⟨S0.it.trans (Sn.same K1.it)⟩
  obtain ⟨xa, xc, hx⟩ := X1.it.shape
  subst hx
  obtain ⟨NB, hNB⟩ : ∃ NB, Aside (NB = nb.length) := ⟨_, ⟨rfl⟩⟩
  rw [← hNB.it] at X1 ⊢
  clear y0 y1 y2 y3 y4 y5 B0 o1
  go_loopw [8, 9] (fun o i wr => ∃ (k : Nat) (own2 : Nat → Nat), i = .int .i64 k ∧ k ≤ M ∧ (∃ a l c, o = .slice a l c) ∧ Aside (RowL own2 3 0 wr o (rs.take k) ∧ Sn (fun k => k = 3) (relab own d w.heap.size (w.heap.size + 2)) w1 own2 wr)) (fun _ i _ => M - (intOf i).toNat)
  case atStart => exact ⟨0, _, rfl, Nat.zero_le _, ⟨_, _, _, rfl⟩, ⟨RowL.nil _ _ _ _, Sn.refl _ _ _⟩⟩
  case round =>
    obtain ⟨k, own2, rfl, hk, ⟨o1, o2, o3, rfl⟩, X⟩ := hrel
    have S2 : Aside (Sn (fun k => k = 3) (relab own d w.heap.size (w.heap.size + 2)) w own2 wr) := ⟨S1.it.trans X.it.2⟩
    have SW : Aside (Sn (fun k => k = 3) (relab own d w.heap.size (w.heap.size + 2)) W0 own2 wr) := ⟨(Sn.same K1.it).trans X.it.2⟩
    have E0 : Aside (CellsO own2 0 wr w.heap.size 28 [.slice fa M fc]) := ⟨D0.it.sn SW.it (by decide)⟩
    have b0 : wr.cell? ⟨w.heap.size, 0, none⟩ = some (.slice fa M fc) := by rw [E0.it.1.cell]; rfl
    rcases Nat.eq_or_lt_of_le hk with rfl | hlt
    · have etk : Aside (rs.take k = rs) := ⟨by rw [hMM.it, List.take_length]⟩
      rw [etk.it] at X
      have X2 : Aside (RdO own2 0 wr (.slice xa NB xc) nb) := ⟨X1.it.sn X.it.2 (by decide)⟩
      have E2 : Aside (CellsO own2 7 wr (w.heap.size + 2) 28 [.slice none 0 0]) := ⟨D2.it.sn SW.it (by decide)⟩
      go_wp2_with (at_builtin; refine wpList_appendL rfl (.tmp 34) (.tmp 36) rfl rfl X.it.1 X2.it (by decide) (by have := HM.it; have := hMM.it; omega) rfl rfl ?_; intro q3 l3 c3 w3 X3; have E3 := Aside.mk (E2.it.sn X3.it.2 (by decide)); have z2 : w3.cell? ⟨w.heap.size + 2, 0, none⟩ = some (.slice none 0 0) := (by rw [E3.it.1.cell]; rfl); have fz := E3.it.1.frozen 0)
      have E4 := E3.it.1.setCell 0 (.slice q3 l3 c3)
      have z3 : (w3.setCell ⟨w.heap.size + 2, 0, none⟩ (.slice q3 l3 c3)).cell? ⟨w.heap.size + 2, 0, none⟩ = some (.slice q3 l3 c3) := by rw [E4.cell]; rfl
      refine bodyPost_ret (v := .tuple #[.agg #[.slice q3 l3 c3], .int .i64 0]) (by simp [results, Tryd.results9, go_sem, z3]) rfl ?_
      have S3 : Sn (fun k => k = 3) (relab own d w.heap.size (w.heap.size + 2)) w _ w3 := S2.it.trans X3.it.2
      have KN : Keeps Nowhere w w3 := relab_keeps (fun k e => by omega) S3
      have KS : Keeps (fun k => k = w.heap.size + 2) w3 (w3.setCell ⟨w.heap.size + 2, 0, none⟩ (.slice q3 l3 c3)) := (Keeps.refl _ _).setCell _ _ (fun _ => rfl)
      have hne : ∀ g, give own2 wr.heap.size 3 g = 3 ∨ give own2 wr.heap.size 3 g = 0 → give own w.heap.size d g = d := fun g hg => relab_back S3 g (by omega)
      refine ⟨_, rfl, ⟨?_, KN.next KS (fun k e hk => by omega)⟩⟩
      have R3 := X3.it.1.sn (I := fun k => k = 7) (own' := give own2 wr.heap.size 3) ⟨fun _ _ => rfl, KS.mono (fun k e _ => by rw [e]; exact E3.it.2)⟩ (by decide) (by decide)
      exact RowL.rdl R3 hne
    · obtain ⟨r, hr⟩ : ∃ r, rs[k]? = some r := ⟨_, List.getElem?_eq_getElem (by rw [← hMM.it]; exact hlt)⟩
      obtain ⟨a1, c1, hv, _, hat⟩ := (HR.it.sn S2.it (by decide)).at
      rw [← hMM.it] at hv
      injection hv with e1 _ e3
      subst e1 e3
      obtain ⟨g, o, v1, rfl, hce, hv1⟩ := hat k r hr
      obtain ⟨va, vc, rfl⟩ := hv1.shape
      have etk : Aside (rs.take (k + 1) = rs.take k ++ [r]) := ⟨take_next hr⟩
      have HV1 := Aside.mk hv1
      have i2 : (k : Int) < M := by omega
      have i3 : (0 : Int) ≤ k := by omega
      have i4 : (k : Int) + 1 ≤ 9223372036854775807 := by omega
      have HK : Aside ((rs.take k).length ≤ 4398046511103) := ⟨by have := HM.it; rw [List.length_take]; omega⟩
      obtain ⟨R, hR⟩ : ∃ R, Aside (R = r.length) := ⟨_, ⟨rfl⟩⟩
      rw [← hR.it] at hce HV1
      clear hr hat hv1 hk
      go_wp2_with (at_builtin; refine wpList_appendL rfl (.tmp 26) (.tmp 32) rfl rfl X.it.1 HV1.it (by decide) HK.it rfl rfl ?_; intro q3 l3 c3 w3 X3)
      all_goals first
        | (exfalso; omega)
        | skip
      go_roundw
      case rel => exact ⟨k + 1, _, by go_num, by omega, ⟨_, _, _, rfl⟩, ⟨by rw [etk.it]; exact X3.it.1, X.it.2.trans X3.it.2⟩⟩
      case measure => simp [intOf]; omega
end
end Go.Proofs.YtfphoaphdfhhiaaDoor

/-
  The document's buffer: Take
-/
namespace Go.Proofs.YtfphoaphdfhhiaaDoor
open Go.RowKit

section
variable {own own0 own' own2 : Nat → Nat} {d : Nat} {w w0 w' w2 : World} {fv gv lv rv : Value} {rs R : List (List Int)} {r G L : List Int}

structure RTk (own0 : Nat → Nat) (w0 : World) (gv lv rv : Value) (G L : List Int) (R : List (List Int)) (own2 : Nat → Nat) (w : World) : Prop where
  got : RowB own2 5 w gv G
  left : RowB own2 6 w lv L
  rest : RowL own2 3 0 w rv R
  sn : Sn (fun k => k = 3 ∨ k = 5 ∨ k = 6) own0 w0 own2 w
theorem RTk.quiet (h : RTk own0 w0 gv lv rv G L R own2 w) (hk : Keeps Nowhere w w') : RTk own0 w0 gv lv rv G L R own2 w' := by
  have s : Sn (fun _ => False) own2 w own2 w' := Sn.same hk
  exact ⟨h.got.sn s (fun x => x), h.left.sn s (fun x => x), h.rest.sn s (fun x => x) (fun x => x), h.sn.trans (s.mono (fun _ x => x.elim))⟩
theorem RTk.more (h : RTk own0 w0 gv lv rv G L R own2 w) {v' : Value} {G' : List Int} (o1 : w'.ownsRow 0 5 1 v' G'.length (bv G')) (k1 : Keeps (fun b => gv.ownBlock = some b) w w') (b1 : ∀ b, v'.ownBlock = some b → gv.ownBlock = some b ∨ w.heap.size ≤ b) :
    RTk own0 w0 v' lv rv G' L R (give own2 w.heap.size 5) w' := by
  obtain ⟨r1, s1⟩ := h.got.app o1 k1 b1
  exact ⟨r1, h.left.sn s1 (by decide), h.rest.sn s1 (by decide) (by decide), h.sn.trans (s1.mono (fun _ x => .inr (.inl x)))⟩
theorem RTk.moreL (h : RTk own0 w0 gv lv rv G L R own2 w) {v' : Value} {L' : List Int} (o1 : w'.ownsRow 0 5 1 v' L'.length (bv L')) (k1 : Keeps (fun b => lv.ownBlock = some b) w w') (b1 : ∀ b, v'.ownBlock = some b → lv.ownBlock = some b ∨ w.heap.size ≤ b) :
    RTk own0 w0 gv v' rv G L' R (give own2 w.heap.size 6) w' := by
  obtain ⟨r1, s1⟩ := h.left.app o1 k1 b1
  exact ⟨h.got.sn s1 (by decide), r1, h.rest.sn s1 (by decide) (by decide), h.sn.trans (s1.mono (fun _ x => .inr (.inr x)))⟩
/-- what was left is the document's, and a new one begins -/
theorem RTk.close (h : RTk own0 w0 gv lv rv G L R own2 w) (hold : ∀ k, k < w0.heap.size → own0 k ≠ 6) : RTk own0 w0 gv (.slice none 0 0) rv G [] R (fun k => if own2 k = 6 then 0 else own2 k) w ∧ RdO (fun k => if own2 k = 6 then 0 else own2 k) 0 w lv L := by
  refine ⟨⟨⟨h.got.1, fun b hb => ?_⟩, RowB.nil _ _ _, ?_, ⟨fun k hk => ?_, h.sn.keeps⟩⟩, ⟨h.left.rd, fun g hg => ⟨owns_lt h.left.1 g hg, by simp [h.left.2 g hg]⟩⟩⟩
  · simp [h.got.2 b hb]
  · obtain ⟨vs, h1, h2, h3, h4⟩ := h.rest
    exact ⟨vs, h1, fun g hg => by simp [h2 g hg], h3.map (fun v r hr => ⟨hr.1, fun g hg => ⟨(hr.2 g hg).1, by simp [(hr.2 g hg).2]⟩⟩), h4⟩
  · have := h.sn.agree k hk
    have := hold k hk
    rw [if_neg (by omega)]
    assumption
theorem got_next {F : List Int} {N : Nat} {b : Int} (h : F.length < N) : (F ++ [b]).take N = F.take N ++ [b] := by
  rw [List.take_of_length_le (by simp; omega), List.take_of_length_le (by omega)]
theorem got_stay {F : List Int} {N : Nat} {b : Int} (h : N ≤ F.length) : (F ++ [b]).take N = F.take N := by
  rw [List.take_append_of_le_length h]
theorem left_none {r : List Int} {k m : Nat} (h : k ≤ m) : (r.take k).drop m = [] := List.drop_of_length_le (by simp; omega)
theorem left_next {r : List Int} {k m : Nat} {b : Int} (hk : r[k]? = some b) (h : m ≤ k) : (r.take (k + 1)).drop m = (r.take k).drop m ++ [b] := by
  have hlt : k < r.length := (List.getElem?_eq_some_iff.1 hk).1
  rw [List.take_add_one, hk, List.drop_append_of_le_length (by simp; omega)]
  rfl
theorem rt_flat {k : Nat} {b : Int} (X : List Int) (hk : r[k]? = some b) : X ++ r.take (k + 1) = (X ++ r.take k) ++ [b] := by
  rw [List.take_add_one, hk, List.append_assoc]
  rfl

set_option maxRecDepth 20000 in
set_option maxHeartbeats 4000000 in
theorem refTake6 (h : RdL own d w fv rs) (n : Int) (hT : rs.flatten.length ≤ 4398046511103) (hM : rs.length ≤ 4398046511103) :
    Calls Tryd.prog 7 #[.agg #[fv], .int .i64 n] w fun e w' => ∃ fv' gv, e = .returned (.tuple #[.agg #[fv'], gv]) ∧ Aside (RdL (give own w.heap.size d) d w' fv' (leftN rs n.toNat) ∧ RdO (give own w.heap.size d) d w' gv (rs.flatten.take n.toNat) ∧ Keeps Nowhere w w') := by
  obtain ⟨fa, fc, hfv, hl, hc⟩ := h.at
  subst hfv
  obtain ⟨M, hMM⟩ : ∃ M, Aside (M = rs.length) := ⟨_, ⟨rfl⟩⟩
  rw [← hMM.it] at hl hM ⊢
  obtain ⟨W0, hW0⟩ : ∃ W0, W0 = (w.alloc (.cells #[.slice fa M fc] 28)).alloc (.cells #[.slice none 0 0] 28) := ⟨_, rfl⟩
  have k0 : Keeps Nowhere w W0 := by rw [hW0]; exact ((Keeps.refl _ _).alloc _).alloc _
  have C0 : Cells W0 w.heap.size 28 [.slice fa M fc] := by rw [hW0]; exact (Cells.new w _ _).later ((Keeps.refl Nowhere _).alloc _) (fun x => x)
  have C2 : Cells W0 (w.heap.size + 1) 28 [.slice none 0 0] := by
    rw [hW0]
    have h := Cells.new (w.alloc (.cells #[.slice fa M fc] 28)) 28 [.slice none 0 0]
    rw [World.size_alloc] at h
    exact h
  obtain ⟨own1, ho1⟩ : ∃ own1, Aside (own1 = relab own d w.heap.size (w.heap.size + 1)) := ⟨_, ⟨rfl⟩⟩
  have D0 : Aside (CellsO own1 0 W0 w.heap.size 28 [.slice fa M fc]) := ⟨by rw [ho1.it]; exact ⟨C0, relab_new (Nat.le_refl _) (by omega)⟩⟩
  have D2 : Aside (CellsO own1 7 W0 (w.heap.size + 1) 28 [.slice none 0 0]) := ⟨by rw [ho1.it]; exact ⟨C2, relab_box (by omega)⟩⟩
  have HR : Aside (RdL own1 0 W0 (.slice fa M fc) rs) := ⟨by rw [ho1.it, hMM.it]; exact (h.relab (w.heap.size + 1)).quiet k0⟩
  have HOLD : Aside (∀ k, k < W0.heap.size → own1 k ≠ 6) := ⟨fun k hk => by
    rw [ho1.it]
    simp only [relab]
    split
    · split <;> omega
    · split <;> omega⟩
  have S0 : Aside (RTk own1 W0 (.slice none 0 0) (.slice none 0 0) (.slice none 0 0) [] [] [] own1 W0) := ⟨⟨RowB.nil _ _ _, RowB.nil _ _ _, RowL.nil _ _ _ _, Sn.refl _ _ _⟩⟩
  have HM63 : (M : Int) ≤ 9223372036854775807 := by omega
  have HM := Aside.mk hM
  have HT := Aside.mk hT
  obtain ⟨N, hN⟩ : ∃ N, Aside (N = n.toNat) := ⟨_, ⟨rfl⟩⟩
  rw [← hN.it]
  have K0 := Aside.mk k0
  clear h hc hl hM hT k0 C0 C2
  go_enter Tryd.func7, Tryd.ntmps7
  go_upto_region 1 with fail
  rw [← hW0]
  clear hW0
  go_wp2_with fail
  go_loopw [6, 7, 8] (fun g rr i wr => ∃ (k : Nat) (own2 : Nat → Nat), i = .int .i64 k ∧ k ≤ M ∧ (∃ a l c, g = .slice a l c) ∧ (∃ a l c, rr = .slice a l c) ∧ Aside (RTk own1 W0 g (.slice none 0 0) rr ((rs.take k).flatten.take N) [] (leftN (rs.take k) N) own2 wr)) (fun _ _ i _ => M - (intOf i).toNat)
  case atStart => exact ⟨0, own1, rfl, Nat.zero_le _, ⟨_, _, _, rfl⟩, ⟨_, _, _, rfl⟩, ⟨by simpa [leftN_nil] using S0.it⟩⟩
  case round =>
    obtain ⟨i, own2, rfl, hk, ⟨g1, g2, g3, rfl⟩, ⟨r1, r2, r3, rfl⟩, X⟩ := hrel
    have E0 : Aside (CellsO own2 0 wr w.heap.size 28 [.slice fa M fc]) := ⟨D0.it.sn X.it.sn (by decide)⟩
    have b0 : wr.cell? ⟨w.heap.size, 0, none⟩ = some (.slice fa M fc) := by rw [E0.it.1.cell]; rfl
    rcases Nat.eq_or_lt_of_le hk with rfl | hlt
    · have etk : Aside (rs.take i = rs) := ⟨by rw [hMM.it, List.take_length]⟩
      rw [etk.it] at X
      have E2 : Aside (CellsO own2 7 wr (w.heap.size + 1) 28 [.slice none 0 0]) := ⟨D2.it.sn X.it.sn (by decide)⟩
      have z2 : wr.cell? ⟨w.heap.size + 1, 0, none⟩ = some (.slice none 0 0) := by rw [E2.it.1.cell]; rfl
      have fz := E2.it.1.frozen 0
      go_wp2_with fail
      have E4 := E2.it.1.setCell 0 (.slice r1 r2 r3)
      have z3 : (wr.setCell ⟨w.heap.size + 1, 0, none⟩ (.slice r1 r2 r3)).cell? ⟨w.heap.size + 1, 0, none⟩ = some (.slice r1 r2 r3) := by rw [E4.cell]; rfl
      refine bodyPost_ret (v := .tuple #[.agg #[.slice r1 r2 r3], .slice g1 g2 g3]) (by simp [results, Tryd.results7, go_sem, z3]) rfl ?_
      have S3 := (Sn.same (I := fun k => k = 3 ∨ k = 5 ∨ k = 6) (own := own1) K0.it).trans X.it.sn
      rw [ho1.it] at S3
      have KN : Keeps Nowhere w wr := relab_keeps (fun k e => by omega) S3
      have KS : Keeps (fun k => k = w.heap.size + 1) wr (wr.setCell ⟨w.heap.size + 1, 0, none⟩ (.slice r1 r2 r3)) := (Keeps.refl _ _).setCell _ _ (fun _ => rfl)
      have s7 : Sn (fun k => k = 7) own2 wr own2 (wr.setCell ⟨w.heap.size + 1, 0, none⟩ (.slice r1 r2 r3)) := ⟨fun _ _ => rfl, KS.mono (fun k e _ => by rw [e]; exact E2.it.2)⟩
      refine ⟨_, _, rfl, ⟨RowL.rdl (X.it.rest.sn s7 (by decide) (by decide)) (fun g hg => relab_back S3 g (by omega)), ?_, KN.next KS (fun k e hk => by omega)⟩⟩
      have h5 := (X.it.got.sn s7 (by decide)).rdO
      exact ⟨h5.1, fun g hg => ⟨(h5.2 g hg).1, relab_back S3 g (by have := (h5.2 g hg).2; omega)⟩⟩
    · obtain ⟨r, hr⟩ : ∃ r, rs[i]? = some r := ⟨_, List.getElem?_eq_getElem (by rw [← hMM.it]; exact hlt)⟩
      obtain ⟨g, o, v, hfa, hce0, hv0⟩ : ∃ g o v, fa = some ⟨g, o, none⟩ ∧ W0.cell? ⟨g, o + i, none⟩ = some v ∧ RdO own1 0 W0 v r := by
        obtain ⟨a1, c1, hv, _, hat⟩ := HR.it.at
        rw [← hMM.it] at hv
        injection hv with e1 _ _
        subst e1
        exact hat i r hr
      subst hfa
      obtain ⟨va, vc, rfl⟩ := hv0.shape
      obtain ⟨Rn, hRn⟩ : ∃ Rn, Aside (Rn = r.length) := ⟨_, ⟨rfl⟩⟩
      rw [← hRn.it] at hce0 hv0
      have HV := Aside.mk hv0
      have CELL : Aside (∀ own3 w3, Sn (fun k => k = 3 ∨ k = 5 ∨ k = 6) own1 W0 own3 w3 → w3.cell? ⟨g, o + i, none⟩ = some (.slice va Rn vc)) := by
        refine ⟨fun own3 w3 s3 => ?_⟩
        have hb : own1 g = 0 := by
          obtain ⟨vs, _, _, h3, _⟩ := HR.it
          exact (h3 g rfl).2
        rw [World.cell?_of_block (w := W0) (s3.keeps.block g (World.block_lt_of_cell? W0 _ hce0) (by rw [hb]; decide))]
        exact hce0
      have hce := CELL.it _ _ X.it.sn
      obtain ⟨gl, hgl⟩ : ∃ gl, Aside (gl = (rs.take i).flatten.length) := ⟨_, ⟨rfl⟩⟩
      have hRle : Aside (gl + Rn ≤ 4398046511103) := ⟨by
        have h1 := flat_take_le rs (i + 1)
        rw [take_flat_next hr, List.length_append, ← hgl.it, ← hRn.it] at h1
        have := HT.it
        omega⟩
      have i2 : (i : Int) < M := by omega
      have i3 : (0 : Int) ≤ i := by omega
      have i4 : (i : Int) + 1 ≤ 9223372036854775807 := by omega
      have HR2 := Aside.mk hr
      clear hr hv0 hk hce0
      go_wp2_with fail
      go_loopw [6, 9, 10] (fun g l kk ws => ∃ (k : Nat) (own3 : Nat → Nat), kk = .int .i64 k ∧ k ≤ Rn ∧ (∃ a b c, g = .slice a b c) ∧ (∃ a b c, l = .slice a b c) ∧ Aside (RTk own1 W0 g l (.slice r1 r2 r3) (((rs.take i).flatten ++ r.take k).take N) ((r.take k).drop (N - gl)) (leftN (rs.take i) N) own3 ws)) (fun _ _ kk _ => Rn - (intOf kk).toNat)
      case atStart => exact ⟨0, own2, rfl, Nat.zero_le _, ⟨_, _, _, rfl⟩, ⟨_, _, _, rfl⟩, ⟨by simpa using X.it⟩⟩
      case round =>
        obtain ⟨k, own3, rfl, hk, ⟨p1, p2, p3, rfl⟩, ⟨l1, l2, l3, rfl⟩, Y⟩ := hrel
        have c1 := CELL.it _ _ Y.it.sn
        have E1 : Aside (CellsO own3 0 wr w.heap.size 28 [.slice (some ⟨g, o, none⟩) M fc]) := ⟨D0.it.sn Y.it.sn (by decide)⟩
        have b1 : wr.cell? ⟨w.heap.size, 0, none⟩ = some (.slice (some ⟨g, o, none⟩) M fc) := by rw [E1.it.1.cell]; rfl
        have hp : Aside (p2 = (((rs.take i).flatten ++ r.take k).take N).length) := ⟨by obtain ⟨_, _, e⟩ := Y.it.got.shape; injection e⟩
        have hl : Aside (l2 = ((r.take k).drop (N - gl)).length) := ⟨by obtain ⟨_, _, e⟩ := Y.it.left.shape; injection e⟩
        have hnext : Aside (leftN (rs.take (i + 1)) N = leftN (rs.take i) N ++ (if Rn ≤ N - gl then [] else [r.drop (N - gl)])) := ⟨by rw [take_next HR2.it, leftN_append, leftN_cons, leftN_nil, List.append_nil, ← hgl.it, ← hRn.it]⟩
        rcases Nat.eq_or_lt_of_le hk with rfl | hlt2
        · have etk : Aside (r.take k = r) := ⟨by rw [hRn.it, List.take_length]⟩
          have egot : Aside (((rs.take i).flatten ++ r.take k).take N = (rs.take (i + 1)).flatten.take N) := ⟨by rw [etk.it, take_flat_next HR2.it]⟩
          rw [egot.it] at Y
          obtain ⟨own4, CL⟩ : ∃ own4, Aside (RTk own1 W0 (.slice p1 p2 p3) (.slice none 0 0) (.slice r1 r2 r3) ((rs.take (i + 1)).flatten.take N) [] (leftN (rs.take i) N) own4 wr ∧ RdO own4 0 wr (.slice l1 l2 l3) ((r.take k).drop (N - gl))) := ⟨_, ⟨Y.it.close HOLD.it⟩⟩
          by_cases hz : k ≤ N - gl
          · have hl0 : l2 = 0 := by rw [hl.it, etk.it, List.drop_of_length_le (by rw [← hRn.it]; exact hz)]; rfl
            have hn2 : Aside (leftN (rs.take (i + 1)) N = leftN (rs.take i) N) := ⟨by rw [hnext.it, if_pos hz, List.append_nil]⟩
            subst hl0
            clear hz
            go_wp2
            all_goals first
              | (exfalso; omega)
              | skip
            go_roundw
            case rel => exact ⟨i + 1, _, by go_num, by omega, ⟨_, _, _, rfl⟩, ⟨_, _, _, rfl⟩, ⟨by rw [hn2.it]; exact CL.it.1⟩⟩
            case measure => simp [intOf]; omega
          · have hl0 : Aside (0 < l2) := ⟨by rw [hl.it, etk.it, List.length_drop, ← hRn.it]; omega⟩
            obtain ⟨m2, rfl⟩ : ∃ m2, l2 = m2 + 1 := ⟨l2 - 1, by have := hl0.it; omega⟩
            have hl0' : (0 : Int) < (m2 : Int) + 1 := by omega
            have hn2 : Aside (leftN (rs.take (i + 1)) N = leftN (rs.take i) N ++ [(r.take k).drop (N - gl)]) := ⟨by rw [hnext.it, if_neg hz, etk.it]⟩
            have HK : Aside ((leftN (rs.take i) N).length ≤ 4398046511103) := ⟨by
              have h1 := len_le_flat (leftN_ne (rs.take i) N)
              rw [leftN_flatten, List.length_drop, ← hgl.it] at h1
              have := hRle.it
              omega⟩
            clear hz
            go_wp2_with (at_builtin; refine wpList_appendL rfl (.tmp 57) (.tmp 59) rfl rfl CL.it.1.rest CL.it.2 (by decide) HK.it rfl rfl ?_; intro q3 q4 q5 w3 X3)
            all_goals first
              | (exfalso; omega)
              | skip
            go_roundw
            case rel => exact ⟨i + 1, _, by go_num, by omega, ⟨_, _, _, rfl⟩, ⟨_, _, _, rfl⟩, ⟨by rw [hn2.it]; exact ⟨CL.it.1.got.sn X3.it.2 (by decide), RowB.nil _ _ _, X3.it.1, CL.it.1.sn.trans (X3.it.2.mono (fun _ e => .inl e))⟩⟩⟩
            case measure => simp [intOf]; omega
        · obtain ⟨b, hb⟩ : ∃ b, r[k]? = some b := ⟨_, List.getElem?_eq_getElem (by rw [← hRn.it]; exact hlt2)⟩
          obtain ⟨gb, ob, cb, hva, hvc, hby⟩ := (HV.it.sn Y.it.sn (by decide)).1.at (fun e => by rw [e] at hb; simp at hb)
          rw [← hRn.it] at hva hvc
          injection hva with e1 _ e3
          subst e1 e3
          have d1 : wr.cell? ⟨gb, ob + k, none⟩ = some (.int .u8 b) := hby k _ (by simp [bv, hb])
          have i5 : (k : Int) < Rn := by omega
          have i6 : (0 : Int) ≤ k := by omega
          have i7 : (k : Int) + 1 ≤ 9223372036854775807 := by have := hRle.it; omega
          have hF : Aside (((rs.take i).flatten ++ r.take k).length = gl + k) := ⟨by rw [List.length_append, ← hgl.it, List.length_take, ← hRn.it]; omega⟩
          have eF : Aside ((rs.take i).flatten ++ r.take (k + 1) = ((rs.take i).flatten ++ r.take k) ++ [b]) := ⟨rt_flat _ hb⟩
          have HB := Aside.mk hb
          have QA : Aside (RTk own1 W0 (.slice p1 p2 p3) (.slice l1 l2 l3) (.slice r1 r2 r3) (((rs.take i).flatten ++ r.take k).take N) ((r.take k).drop (N - gl)) (leftN (rs.take i) N) own3 (wr.alloc (.cells #[.int .u8 b] 5))) := ⟨Y.it.quiet ((Keeps.refl _ _).alloc _)⟩
          have RC : Aside (Rd (wr.alloc (.cells #[.int .u8 b] 5)) (.slice (some ⟨wr.heap.size, 0, none⟩) 1 1) [b]) := ⟨rd_const wr [b] (0, 0)⟩
          have HKK : Aside (gl + k + 1 ≤ 4398046511103) := ⟨by have := hRle.it; omega⟩
          clear hb hby hk
          by_cases hin : gl + k < N
          · have i8 : (p2 : Int) < n := by
              have h1 := hp.it
              have h2 := hN.it
              rw [List.length_take, hF.it] at h1
              omega
            have eG : Aside (((rs.take i).flatten ++ r.take (k + 1)).take N = ((rs.take i).flatten ++ r.take k).take N ++ [b]) := ⟨by rw [eF.it, got_next (by rw [hF.it]; exact hin)]⟩
            have eL : Aside ((r.take (k + 1)).drop (N - gl) = (r.take k).drop (N - gl)) := ⟨by rw [left_none (by omega), left_none (by omega)]⟩
            clear hin
            go_wp2_with (at_builtin; refine wpList_appendO rfl (.tmp 32) (.tmp 41) rfl (.slice p1 p2 p3) _ _ [b] QA.it.got.1 RC.it (by have := HKK.it; have := hF.it; simp only [List.length_take, List.length_cons, List.length_nil]; omega) rfl rfl ?_; intro q3 q4 q5 w3 o3 k3 b3)
            all_goals first
              | (exfalso; omega)
              | skip
            go_roundw
            case rel => exact ⟨k + 1, _, by go_num, by omega, ⟨_, _, _, rfl⟩, ⟨_, _, _, rfl⟩, ⟨by rw [eG.it, eL.it]; exact QA.it.more o3.it k3.it b3.it⟩⟩
            case measure => simp [intOf]; omega
          · have i8 : ¬ (p2 : Int) < n := by
              have h1 := hp.it
              have h2 := hN.it
              rw [List.length_take, hF.it] at h1
              omega
            have eG : Aside (((rs.take i).flatten ++ r.take (k + 1)).take N = ((rs.take i).flatten ++ r.take k).take N) := ⟨by rw [eF.it, got_stay (by rw [hF.it]; omega)]⟩
            have eL : Aside ((r.take (k + 1)).drop (N - gl) = (r.take k).drop (N - gl) ++ [b]) := ⟨left_next HB.it (by omega)⟩
            clear hin
            go_wp2_with (at_builtin; refine wpList_appendO rfl (.tmp 43) (.tmp 52) rfl (.slice l1 l2 l3) _ _ [b] QA.it.left.1 RC.it (by have := HKK.it; simp only [List.length_take, List.length_drop, List.length_cons, List.length_nil]; omega) rfl rfl ?_; intro q3 q4 q5 w3 o3 k3 b3)
            all_goals first
              | (exfalso; omega)
              | skip
            go_roundw
            case rel => exact ⟨k + 1, _, by go_num, by omega, ⟨_, _, _, rfl⟩, ⟨_, _, _, rfl⟩, ⟨by rw [eG.it, eL.it]; exact QA.it.moreL o3.it k3.it b3.it⟩⟩
            case measure => simp [intOf]; omega
end
end Go.Proofs.YtfphoaphdfhhiaaDoor

