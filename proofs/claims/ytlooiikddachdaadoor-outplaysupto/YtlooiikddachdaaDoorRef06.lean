/-
  The document's buffer: Len, Put
-/
import Derived.Test.YtlooiikddachdaaDoorOwnL
namespace Go.Proofs.YtlooiikddachdaaDoor
open Go.RowKit

section
variable {own own' : Nat → Nat} {d d2 : Nat} {w w' : World} {fv : Value} {rs : List (List Int)} {r : List Int} {I : Nat → Prop}

theorem take_flat_next {k : Nat} (h : rs[k]? = some r) : (rs.take (k + 1)).flatten = (rs.take k).flatten ++ r := by
  rw [List.take_add_one, h]
  simp
theorem take_next {k : Nat} (h : rs[k]? = some r) : rs.take (k + 1) = rs.take k ++ [r] := by
  rw [List.take_add_one, h]
  rfl
theorem flat_take_le (rs : List (List Int)) (k : Nat) : (rs.take k).flatten.length ≤ rs.flatten.length := by
  conv => rhs; rw [← List.take_append_drop k rs, List.flatten_append, List.length_append]
  omega
set_option maxHeartbeats 1000000 in
theorem refLen6 (h : RdL own d w fv rs) (hT : rs.flatten.length ≤ 4398046511103) (hML : rs.length ≤ 4398046511103) :
    Calls Tryd.prog 22 #[.agg #[fv]] w fun e w' => e = .returned (.int .i64 rs.flatten.length) ∧ Aside (Keeps Nowhere w w') := by
  obtain ⟨a, c, hv, hl, hc⟩ := h.at
  subst hv
  obtain ⟨M, hM⟩ : ∃ M, Aside (M = rs.length) := ⟨_, ⟨rfl⟩⟩
  rw [← hM.it] at hl ⊢
  obtain ⟨W0, hW0⟩ : ∃ W0, W0 = w.alloc (.cells #[.slice a M c] 28) := ⟨_, rfl⟩
  have K0 : Aside (Keeps Nowhere w W0) := ⟨by rw [hW0]; exact (Keeps.refl _ _).alloc _⟩
  have b0 : W0.cell? ⟨w.heap.size, 0, none⟩ = some (.slice a M c) := by
    have : Cells W0 w.heap.size 28 [.slice a M c] := by rw [hW0]; exact Cells.new w _ _
    rw [this.cell]; rfl
  have HC := Aside.mk hc
  have HT := Aside.mk hT
  have HM63 : (M : Int) ≤ 9223372036854775807 := by have h1 := hM.it; omega
  clear h hc hT hl hML
  go_enter Tryd.func22, Tryd.ntmps22
  go_upto_region 1 with fail
  rw [← hW0]
  clear hW0
  go_wp2_with fail
  go_loopw [3, 4] (fun n i wr => ∃ k : Nat, i = .int .i64 k ∧ k ≤ M ∧ n = .int .i64 (rs.take k).flatten.length ∧ wr = W0) (fun _ i _ => M - (intOf i).toNat)
  case atStart => exact ⟨0, rfl, Nat.zero_le _, by simp, rfl⟩
  case round =>
    obtain ⟨k, rfl, hk, rfl, rfl⟩ := hrel
    rcases Nat.eq_or_lt_of_le hk with rfl | hlt
    · have e1 : Aside ((rs.take k).flatten.length = rs.flatten.length) := ⟨by rw [hM.it, List.take_length]⟩
      rw [e1.it]
      go_wp2
      go_ret
      exact ⟨rfl, K0⟩
    · obtain ⟨r, hr⟩ : ∃ r, rs[k]? = some r := ⟨_, List.getElem?_eq_getElem (by rw [← hM.it]; exact hlt)⟩
      obtain ⟨g, o, v, rfl, hce, hv⟩ := HC.it k r hr
      obtain ⟨va, vc, rfl⟩ := hv.shape
      have hce' : wr.cell? ⟨g, o + k, none⟩ = some (.slice va r.length vc) := by
        rw [World.cell?_of_block (w := w) (K0.it.block g (World.block_lt_of_cell? w _ hce) (fun x => x))]; exact hce
      have hsum : Aside ((rs.take (k + 1)).flatten.length = (rs.take k).flatten.length + r.length) := ⟨by rw [take_flat_next hr, List.length_append]⟩
      have hle : Aside ((rs.take (k + 1)).flatten.length ≤ 4398046511103) := ⟨Nat.le_trans (flat_take_le _ _) HT.it⟩
      obtain ⟨T, hT⟩ : ∃ T, Aside (T = (rs.take k).flatten.length) := ⟨_, ⟨rfl⟩⟩
      obtain ⟨R, hR⟩ : ∃ R, Aside (R = r.length) := ⟨_, ⟨rfl⟩⟩
      rw [← hT.it, ← hR.it] at hsum
      rw [← hT.it]
      rw [← hR.it] at hce'
      have i1 : (T : Int) + R ≤ 9223372036854775807 := by have := hsum.it; have := hle.it; omega
      have i2 : (k : Int) < M := by omega
      have i3 : (0 : Int) ≤ k := by omega
      have i4 : (k : Int) + 1 ≤ 9223372036854775807 := by omega
      clear hr hce hv hk
      go_wp2
      all_goals first
        | (exfalso; omega)
        | skip
      go_roundw
      case rel => exact ⟨k + 1, by go_num, by omega, by rw [hsum.it]; go_num, by first | rfl | trivial⟩
      case measure => simp [intOf]; omega

set_option maxHeartbeats 1000000 in
theorem refPut6_bad {A : Nat → Addr} (fv : Value) (hfv : ∃ a n c, fv = .slice a n c) (hs : Sents 108 codeVars A w) (v t f s l : Int) (dd : Value) (ns : List Int) (hr : Rd w dd ns) (hn : ns.length ≤ 140737488351300)
    (hf0 : 0 ≤ f) (hf1 : f ≤ 65535) (hs0 : 0 ≤ s) (hs1 : s ≤ 4294967295) (hl0 : 0 ≤ l) (hl1 : l ≤ 4294967295) (hbad : ¬ (ns.length : Int) = szH t l) :
    Calls Tryd.prog 19 #[.agg #[fv], frm v t f s l dd] w fun e w' => e = .returned (.tuple #[.agg #[fv], .int .i64 15]) ∧ Aside (Keeps Nowhere w w') := by
  obtain ⟨fa, fn, fc, rfl⟩ := hfv
  obtain ⟨a, c, hd⟩ := hr.shape
  subst hd
  obtain ⟨W0, hW0⟩ : ∃ W0, W0 = ((w.alloc (.cells #[.slice fa fn fc] 28)).alloc (fbox v t f s l (.slice a ns.length c))).alloc (.cells #[.slice none 0 0] 28) := ⟨_, rfl⟩
  have k0 : Keeps Nowhere w W0 := by rw [hW0]; exact (((Keeps.refl _ _).alloc _).alloc _).alloc _
  have B0 := Aside.mk (refBytes_any (A := A) v t f s l (.slice a ns.length c) ns W0 (hs.later k0.bel) (hr.later k0.bel) hn hf0 hf1 hs0 hs1 hl0 hl1)
  have he : Aside (bE t l ns.length = 15) := ⟨if_neg hbad⟩
  rw [he.it] at B0
  have C0 : Cells W0 w.heap.size 28 [.slice fa fn fc] := by rw [hW0]; exact ((Cells.new w _ _).later ((Keeps.refl Nowhere _).alloc _) (fun x => x)).later ((Keeps.refl Nowhere _).alloc _) (fun x => x)
  have C1 : Cells W0 (w.heap.size + 1) 37 [.int .u8 v, .int .u8 t, .int .u16 f, .int .u32 s, .int .u32 l, .slice a ns.length c] := by
    rw [hW0]
    have h := Cells.new (w.alloc (.cells #[.slice fa fn fc] 28)) 37 [.int .u8 v, .int .u8 t, .int .u16 f, .int .u32 s, .int .u32 l, .slice a ns.length c]
    rw [World.size_alloc] at h
    exact h.later ((Keeps.refl Nowhere _).alloc _) (fun x => x)
  have C2 : Cells W0 (w.heap.size + 2) 28 [.slice none 0 0] := by
    rw [hW0]
    have h := Cells.new ((w.alloc (.cells #[.slice fa fn fc] 28)).alloc (fbox v t f s l (.slice a ns.length c))) 28 [.slice none 0 0]
    rw [World.size_alloc, World.size_alloc] at h
    exact h
  obtain ⟨N, hN⟩ : ∃ N, Aside (N = ns.length) := ⟨_, ⟨rfl⟩⟩
  rw [← hN.it] at hW0 C1 B0 ⊢
  have K0 := Aside.mk k0
  have D0 := Aside.mk C0
  have D2 := Aside.mk C2
  have y0 : W0.cell? ⟨w.heap.size + 1, 0, none⟩ = some (.int .u8 v) := by rw [C1.cell]; rfl
  have y1 : W0.cell? ⟨w.heap.size + 1, 1, none⟩ = some (.int .u8 t) := by rw [C1.cell]; rfl
  have y2 : W0.cell? ⟨w.heap.size + 1, 2, none⟩ = some (.int .u16 f) := by rw [C1.cell]; rfl
  have y3 : W0.cell? ⟨w.heap.size + 1, 3, none⟩ = some (.int .u32 s) := by rw [C1.cell]; rfl
  have y4 : W0.cell? ⟨w.heap.size + 1, 4, none⟩ = some (.int .u32 l) := by rw [C1.cell]; rfl
  have y5 : W0.cell? ⟨w.heap.size + 1, 5, none⟩ = some (.slice a N c) := by rw [C1.cell]; rfl
  clear hs hr hn hf0 hf1 hs0 hs1 hl0 hl1 hbad k0 C0 C1 C2
  go_enter Tryd.func19, Tryd.ntmps19
  go_upto_region 1 with fail
  rw [← hW0]
  clear hW0
  go_wp2_with (go_at_call 34; refine B0.it.mono ?_; rintro e w1 ⟨x, rfl, o1, b1⟩; have K1 : Aside (Keeps Nowhere W0 w1) := ⟨Keeps.ofBelow b1⟩; have z0 : w1.cell? ⟨w.heap.size, 0, none⟩ = some (.slice fa fn fc) := (by rw [(D0.it.later K1.it (fun x => x)).cell]; rfl); have E2 := Aside.mk (D2.it.later K1.it (fun x => x)); have z2 : w1.cell? ⟨w.heap.size + 2, 0, none⟩ = some (.slice none 0 0) := (by rw [E2.it.cell]; rfl); have fz := E2.it.frozen 0; clear b1)
  have E3 := E2.it.setCell 0 (.slice fa fn fc)
  have z3 : (w1.setCell ⟨w.heap.size + 2, 0, none⟩ (.slice fa fn fc)).cell? ⟨w.heap.size + 2, 0, none⟩ = some (.slice fa fn fc) := by rw [E3.cell]; rfl
  refine bodyPost_ret (v := .tuple #[.agg #[.slice fa fn fc], .int .i64 15]) (by simp [results, Tryd.results19, go_sem, z3]) rfl ?_
  refine ⟨rfl, ⟨(K0.it.trans K1.it).next (S' := fun k => k = w.heap.size + 2) ((Keeps.refl _ _).setCell _ _ (fun _ => rfl)) (fun k e hk => by omega)⟩⟩
end
end Go.Proofs.YtlooiikddachdaaDoor
