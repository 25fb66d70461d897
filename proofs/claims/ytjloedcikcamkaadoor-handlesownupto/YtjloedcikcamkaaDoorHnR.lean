/-
  the document's handles (culvertref22): its pairs as they are read; Of, Find, without, On
-/
import Derived.Test.YtjloedcikcamkaaDoorHnD
namespace Go.Proofs.YtjloedcikcamkaaDoor
open Go.RowKit

variable {w w' W : World} {own own' : Nat → Nat} {v : Value} {L : Hl} {I : Nat → Prop} {x : Pl} {z G : Int}

def natOf22 : Value → Nat | .int _ q => q.toNat | _ => 0
/-- the document's pairs: owner 9's, whom no call changes -/
def RdH (own : Nat → Nat) (w : World) (v : Value) (L : Hl) : Prop :=
  ∃ a c, v = .slice a L.length c ∧ L.length ≤ c ∧ ∀ j y, L[j]? = some y → ∃ g, a = some ⟨g, 0, none⟩ ∧ own g = 9 ∧ w.cell? ⟨g, j * 4, none⟩ = some (.int .i64 y.1) ∧ w.cell? ⟨g, j * 4 + 1, none⟩ = some (.int .i64 y.2.c) ∧ w.cell? ⟨g, j * 4 + 2, none⟩ = some (.int .i64 y.2.l) ∧ w.cell? ⟨g, j * 4 + 3, none⟩ = some (.int .u32 (y.2.d : Nat))
theorem RdH.sn (h : RdH own w v L) (s : Sn I own w own' w') (hi : ¬ I 9) : RdH own' w' v L := by
  obtain ⟨a, c, e, hl, hc⟩ := h
  refine ⟨a, c, e, hl, fun j x hj => ?_⟩
  obtain ⟨g, ea, ho, c0, c1, c2, c3⟩ := hc j x hj
  have hg := World.block_lt_of_cell? w _ c0
  have hb := s.keeps.block g hg (fun e => hi (by rw [← ho]; exact e))
  exact ⟨g, ea, (s.agree g hg).trans ho, by rw [World.cell?_of_block (w := w) hb]; exact c0, by rw [World.cell?_of_block (w := w) hb]; exact c1, by rw [World.cell?_of_block (w := w) hb]; exact c2, by rw [World.cell?_of_block (w := w) hb]; exact c3⟩
theorem RdH.quiet (h : RdH own w v L) (hk : Keeps Nowhere w w') : RdH own w' v L := h.sn (I := fun _ => False) (Sn.same hk) (fun x => x)
theorem RdH.step (h : RdH own w v L) (hk : Keeps Nowhere w w') (r : Nat) : RdH (give own w.heap.size r) w' v L := h.sn (I := fun _ => False) (Sn.quiet hk r) (fun x => x)
theorem RdH.nil (own : Nat → Nat) (w : World) : RdH own w (.slice none 0 0) [] := ⟨none, 0, rfl, Nat.le_refl _, fun j x h => by simp at h⟩
theorem RdH.shape (h : RdH own w v L) : ∃ a c, v = .slice a L.length c ∧ L.length ≤ c := by
  obtain ⟨a, c, e, hl, _⟩ := h
  exact ⟨a, c, e, hl⟩
abbrev fl4 (y : Int × Pl) : List Value := [.int .i64 y.1, .int .i64 y.2.c, .int .i64 y.2.l, .int .u32 (y.2.d : Nat)]
def flat22 (L : Hl) : List Value := L.flatMap fl4
theorem flat22_snoc (L : Hl) (x : Int × Pl) : flat22 (L ++ [x]) = flat22 L ++ fl4 x := by simp [flat22, List.flatMap_append]
theorem flat22_at (L : Hl) : ∀ (j : Nat) (x : Int × Pl), L[j]? = some x → ∀ (k : Nat) (u : Value), (fl4 x)[k]? = some u → (flat22 L)[j * 4 + k]? = some u := by
  induction L with
  | nil => intro j x h; simp at h
  | cons y L ih =>
    intro j x h k u hu
    have hk : k < 4 := by have := (List.getElem?_eq_some_iff.1 hu).1; simpa [fl4] using this
    have e : flat22 (y :: L) = fl4 y ++ flat22 L := rfl
    rw [e]
    cases j with
    | zero =>
      simp only [List.getElem?_cons_zero, Option.some.injEq] at h
      subst h
      rw [List.getElem?_append_left (by simp [fl4]; omega)]
      simpa using hu
    | succ j =>
      simp only [List.getElem?_cons_succ] at h
      rw [List.getElem?_append_right (by simp [fl4]; omega)]
      have : (j + 1) * 4 + k - (fl4 y).length = j * 4 + k := by simp [fl4]; omega
      rw [this]
      exact ih j x h k u hu
/-- pairs that the document has just made -/
theorem owns_rdH {base : Nat} {n : Nat} (h : w'.ownsRow base 69 4 v n (flat22 L)) (hn : n = L.length) (hb : w.heap.size ≤ base) : RdH (give own w.heap.size 9) w' v L := by
  subst hn
  rcases h.2 with ⟨rfl, h0⟩ | ⟨g, cap, cur, rfl, hg, hc, hn, hm, hs, ht⟩
  · obtain rfl : L = [] := List.eq_nil_of_length_eq_zero h0
    exact RdH.nil _ _
  · refine ⟨_, cap, rfl, hn, fun j x hj => ⟨g, rfl, give_new (by omega), ?_, ?_, ?_, ?_⟩⟩
    · have := h.cells rfl (j * 4) _ (flat22_at L j x hj 0 _ rfl)
      rwa [add_none, Nat.zero_add] at this
    · have := h.cells rfl (j * 4 + 1) _ (flat22_at L j x hj 1 _ rfl)
      rwa [add_none, Nat.zero_add] at this
    · have := h.cells rfl (j * 4 + 2) _ (flat22_at L j x hj 2 _ rfl)
      rwa [add_none, Nat.zero_add] at this
    · have := h.cells rfl (j * 4 + 3) _ (flat22_at L j x hj 3 _ rfl)
      rwa [add_none, Nat.zero_add] at this
theorem cells_four (w : World) (a b c d : Value) (t : TypeId) : ∀ j u, [a, b, c, d][j]? = some u → (w.alloc (.cells #[a, b, c, d] t)).cell? ((⟨w.heap.size, 0, none⟩ : Addr).add j) = some u := by
  intro j u hj
  rw [add_none, Nat.zero_add]
  have := (Cells.new w t [a, b, c, d]).cell j
  rw [this]
  exact hj
theorem pinfo : (Tryd.prog.info? 69).map (fun i => (i.zero, i.size, i.bytes)) = some (some (.agg #[.int .i64 0, .int .i64 0, .int .i64 0, .int .u32 0]), 4, 32) := by kernel_rfl
theorem hdrop_cons {L : Hl} {j : Nat} {x : Int × Pl} (hx : L[j]? = some x) : L.drop j = x :: L.drop (j + 1) := by
  have hjl : j < L.length := (List.getElem?_eq_some_iff.1 hx).1
  rw [List.drop_eq_getElem_cons hjl]
  rw [List.getElem?_eq_getElem hjl] at hx
  simp only [Option.some.injEq] at hx
  rw [hx]
theorem htake_snoc {L : Hl} {j : Nat} {x : Int × Pl} (hx : L[j]? = some x) : L.take (j + 1) = L.take j ++ [x] := by rw [List.take_add_one, hx]; rfl

set_option maxHeartbeats 1000000 in
theorem dof (h : RdH own w v L) (hl : L.length ≤ 2147483648) :
    Calls Tryd.prog 25 #[.agg #[.int .i64 G, v], .agg #[.int .i64 x.c, .int .i64 x.l, .int .u32 (x.d : Nat)]] w fun e w' => e = .returned (.tuple #[.int .i64 ((hof L x).getD 0), .bool (hof L x).isSome]) ∧ Aside (Keeps Nowhere w w') := by
  obtain ⟨a, c, rfl, hlc, hc⟩ := h
  obtain ⟨n, hn⟩ : ∃ n, L.length = n := ⟨_, rfl⟩
  have HN := Aside.mk hn
  rw [hn] at hlc hl ⊢
  obtain ⟨bx, hbx⟩ : ∃ bx, w.heap.size = bx := ⟨_, rfl⟩
  obtain ⟨W1, hW1⟩ : ∃ W1, ((w.alloc (.cells #[.int .i64 G, .slice a n c] 28)).alloc (.cells #[.int .i64 x.c, .int .i64 x.l, .int .u32 (x.d : Nat)] 33)) = W1 := ⟨_, rfl⟩
  have K1 : Aside (Keeps Nowhere w W1) := ⟨by rw [← hW1]; exact ((Keeps.refl _ _).alloc _).alloc _⟩
  have C1 : Aside (Cells W1 bx 28 [.int .i64 G, .slice a n c]) := ⟨by rw [← hW1, ← hbx]; exact (Cells.new w _ _).later (S := Nowhere) ((Keeps.refl _ _).alloc _) (fun x => x)⟩
  have C2 : Aside (Cells W1 (bx + 1) 33 [.int .i64 x.c, .int .i64 x.l, .int .u32 (x.d : Nat)]) := ⟨by
    have h := Cells.new (w.alloc (.cells #[.int .i64 G, .slice a n c] 28)) 33 [.int .i64 x.c, .int .i64 x.l, .int .u32 (x.d : Nat)]
    rw [World.size_alloc, hbx] at h
    rw [← hW1]; exact h⟩
  have HC := Aside.mk hc
  clear hc hn
  go_enter Tryd.func25, Tryd.ntmps25
  go_upto_region 2 with fail
  clear hW1 hbx
  go_loopw [6] (fun v wr => ∃ j : Nat, v = .int .i64 j ∧ j ≤ n ∧ Keeps Nowhere W1 wr ∧ hof (L.drop j) x = hof L x) (fun v _ => n - natOf22 v)
  case atStart => exact ⟨0, rfl, Nat.zero_le _, Keeps.refl _ _, rfl⟩
  case round =>
    obtain ⟨j, rfl, hj, hk, ht⟩ := hrel
    have HK := Aside.mk (K1.it.trans hk)
    have HKr := Aside.mk hk
    have d1 : wr.cell? ⟨bx, 1, none⟩ = some (.slice a n c) := by rw [(C1.it.later hk (fun x => x)).cell]; rfl
    have e0 : wr.cell? ⟨bx + 1, 0, none⟩ = some (.int .i64 x.c) := by rw [(C2.it.later hk (fun x => x)).cell]; rfl
    have e1 : wr.cell? ⟨bx + 1, 1, none⟩ = some (.int .i64 x.l) := by rw [(C2.it.later hk (fun x => x)).cell]; rfl
    have e2 : wr.cell? ⟨bx + 1, 2, none⟩ = some (.int .u32 (x.d : Nat)) := by rw [(C2.it.later hk (fun x => x)).cell]; rfl
    clear hk
    rcases Nat.eq_or_lt_of_le hj with rfl | hlt
    · rw [List.drop_eq_nil_of_le (by rw [HN.it]; exact Nat.le_refl _)] at ht
      have HT := Aside.mk (show hof L x = none by rw [← ht]; simp [hof])
      clear ht
      go_wp2_with fail
      go_ret2
      rw [HT.it]
      exact ⟨rfl, HK⟩
    · obtain ⟨y, hy⟩ : ∃ y, L[j]? = some y := ⟨_, List.getElem?_eq_getElem (by rw [HN.it]; exact hlt)⟩
      obtain ⟨g, rfl, _, y0, y1, y2, y3⟩ := HC.it j y hy
      have hb := HK.it.block g (World.block_lt_of_cell? w _ y0) (fun x => x)
      have z0 : wr.cell? ⟨g, j * 4, none⟩ = some (.int .i64 y.1) := by rw [World.cell?_of_block (w := w) hb]; exact y0
      have z1 : wr.cell? ⟨g, j * 4 + 1, none⟩ = some (.int .i64 y.2.c) := by rw [World.cell?_of_block (w := w) hb]; exact y1
      have z2 : wr.cell? ⟨g, j * 4 + 1 + 1, none⟩ = some (.int .i64 y.2.l) := by rw [World.cell?_of_block (w := w) hb]; exact y2
      have z3 : wr.cell? ⟨g, j * 4 + 1 + 2, none⟩ = some (.int .u32 (y.2.d : Nat)) := by rw [World.cell?_of_block (w := w) hb]; exact y3
      rw [hdrop_cons hy, hof] at ht
      obtain ⟨yz, yc, yl, yd⟩ := y
      obtain ⟨xc, xl, xd⟩ := x
      simp only at z0 z1 z2 z3 ht e0 e1 e2
      obtain ⟨w7, hw7⟩ : ∃ w7, wr.alloc (.cells #[.int .i64 yc, .int .i64 yl, .int .u32 (yd : Nat)] 33) = w7 := ⟨_, rfl⟩
      have K7 : Aside (Keeps Nowhere wr w7) := ⟨by rw [← hw7]; exact (Keeps.refl _ _).alloc _⟩
      have C7 : Aside (Cells w7 wr.heap.size 33 [.int .i64 yc, .int .i64 yl, .int .u32 (yd : Nat)]) := ⟨by rw [← hw7]; exact Cells.new wr _ _⟩
      go_upto_region 5 with fail
      clear hw7
      have x0 : w7.cell? ⟨wr.heap.size, 0, none⟩ = some (.int .i64 yc) := by rw [C7.it.cell]; rfl
      have x1 : w7.cell? ⟨wr.heap.size, 1, none⟩ = some (.int .i64 yl) := by rw [C7.it.cell]; rfl
      have x2 : w7.cell? ⟨wr.heap.size, 2, none⟩ = some (.int .u32 (yd : Nat)) := by rw [C7.it.cell]; rfl
      generalize wr.heap.size = b7 at x0 x1 x2 C7 ⊢
      have hkc : ∀ {a : Addr} {u : Value}, wr.cell? a = some u → w7.cell? a = some u := fun {a u} h => by rw [World.cell?_of_block (w := wr) (K7.it.block a.block (World.block_lt_of_cell? wr _ h) (fun x => x))]; exact h
      have d1 := hkc d1
      have e0 := hkc e0
      have e1 := hkc e1
      have e2 := hkc e2
      have z0 := hkc z0
      have HK7 := Aside.mk (HK.it.trans K7.it)
      have HKr7 := Aside.mk (HKr.it.trans K7.it)
      clear hkc C7 z1 z2 z3
      by_cases hyx : (⟨yc, yl, yd⟩ : Pl) = ⟨xc, xl, xd⟩
      · rw [if_pos hyx] at ht
        have HT := Aside.mk ht
        injection hyx with h1 h2 h3
        have q1 : (yc == xc) = true := by simp [h1]
        have q2 : (yl == xl) = true := by simp [h2]
        have q3 : ((yd : Int) == (xd : Int)) = true := by simp [h3]
        clear ht hy y0 y1 y2 y3 h1 h2 h3 hb
        go_wp2_with fail
        go_ret2
        rw [← HT.it]
        exact ⟨rfl, HK7⟩
      · rw [if_neg hyx] at ht
        have HT := Aside.mk ht
        have hne : ¬ (yc = xc ∧ yl = xl ∧ yd = xd) := fun ⟨h1, h2, h3⟩ => hyx (by rw [h1, h2, h3])
        clear ht hy y0 y1 y2 y3 hyx hb
        by_cases h1 : yc = xc
        · have q1 : (yc == xc) = true := by simp [h1]
          by_cases h2 : yl = xl
          · have q2 : (yl == xl) = true := by simp [h2]
            have q3 : ((yd : Int) == (xd : Int)) = false := by simp; exact fun h3 => hne ⟨h1, h2, by omega⟩
            clear h1 h2 hne
            go_wp2_with fail
            go_roundw
            case rel => exact ⟨j + 1, by go_num, by omega, HKr7.it, HT.it⟩
            case measure => simp [natOf22]; omega
          · have q2 : (yl == xl) = false := by simp [h2]
            clear h1 h2 hne
            go_wp2_with fail
            go_roundw
            case rel => exact ⟨j + 1, by go_num, by omega, HKr7.it, HT.it⟩
            case measure => simp [natOf22]; omega
        · have q1 : (yc == xc) = false := by simp [h1]
          clear h1 hne
          go_wp2_with fail
          go_roundw
          case rel => exact ⟨j + 1, by go_num, by omega, HKr7.it, HT.it⟩
          case measure => simp [natOf22]; omega

set_option maxHeartbeats 1000000 in
theorem dfind (h : RdH own w v L) (hl : L.length ≤ 2147483648) (z : Int) :
    Calls Tryd.prog 24 #[.agg #[.int .i64 G, v], .int .i64 z] w fun e w' => e = .returned (.tuple #[pv (gotP (hfind L z)), .bool (hfind L z).isSome]) ∧ Aside (Keeps Nowhere w w') := by
  obtain ⟨a, c, rfl, hlc, hc⟩ := h
  obtain ⟨n, hn⟩ : ∃ n, L.length = n := ⟨_, rfl⟩
  have HN := Aside.mk hn
  rw [hn] at hlc hl ⊢
  obtain ⟨bx, hbx⟩ : ∃ bx, w.heap.size = bx := ⟨_, rfl⟩
  obtain ⟨W1, hW1⟩ : ∃ W1, ((w.alloc (.cells #[.int .i64 G, .slice a n c] 28)).alloc (.cells #[.int .i64 0, .int .i64 0, .int .u32 0] 33)) = W1 := ⟨_, rfl⟩
  have K1 : Aside (Keeps Nowhere w W1) := ⟨by rw [← hW1]; exact ((Keeps.refl _ _).alloc _).alloc _⟩
  have C1 : Aside (Cells W1 bx 28 [.int .i64 G, .slice a n c]) := ⟨by rw [← hW1, ← hbx]; exact (Cells.new w _ _).later (S := Nowhere) ((Keeps.refl _ _).alloc _) (fun x => x)⟩
  have C2 : Aside (Cells W1 (bx + 1) 33 [.int .i64 0, .int .i64 0, .int .u32 0]) := ⟨by
    have h := Cells.new (w.alloc (.cells #[.int .i64 G, .slice a n c] 28)) 33 [.int .i64 0, .int .i64 0, .int .u32 0]
    rw [World.size_alloc, hbx] at h
    rw [← hW1]; exact h⟩
  have HC := Aside.mk hc
  have HB := Aside.mk hbx
  have d1 : W1.cell? ⟨bx, 1, none⟩ = some (.slice a n c) := by rw [C1.it.cell]; rfl
  have g0 : W1.cell? ⟨bx + 1, 0, none⟩ = some (.int .i64 0) := by rw [C2.it.cell]; rfl
  have g1 : W1.cell? ⟨bx + 1, 1, none⟩ = some (.int .i64 0) := by rw [C2.it.cell]; rfl
  have g2 : W1.cell? ⟨bx + 1, 2, none⟩ = some (.int .u32 0) := by rw [C2.it.cell]; rfl
  have f0 := C2.it.frozen 0
  have f1 := C2.it.frozen 1
  have f2 := C2.it.frozen 2
  have KF : Aside (∀ u0 u1 u2 : Value, Keeps Nowhere w (((W1.setCell ⟨bx + 1, 0, none⟩ u0).setCell ⟨bx + 1, 1, none⟩ u1).setCell ⟨bx + 1, 2, none⟩ u2)) := ⟨fun u0 u1 u2 => K1.it.next (S' := fun k => k = bx + 1) ((((Keeps.refl (fun k => k = bx + 1) W1).setCell ⟨bx + 1, 0, none⟩ _ (fun _ => rfl)).setCell ⟨bx + 1, 1, none⟩ _ (fun _ => rfl)).setCell ⟨bx + 1, 2, none⟩ _ (fun _ => rfl)) (fun k e hlt => by have := HB.it; omega)⟩
  clear hc hn
  go_enter Tryd.func24, Tryd.ntmps24
  go_upto_region 2 with fail
  clear hW1 hbx
  go_loopw [6] (fun v wr => ∃ j : Nat, v = .int .i64 j ∧ j ≤ n ∧ wr = W1 ∧ hfind (L.drop j) z = hfind L z) (fun v _ => n - natOf22 v)
  case atStart => exact ⟨0, rfl, Nat.zero_le _, rfl, rfl⟩
  case round =>
    obtain ⟨j, rfl, hj, rfl, ht⟩ := hrel
    rcases Nat.eq_or_lt_of_le hj with rfl | hlt
    · rw [List.drop_eq_nil_of_le (by rw [HN.it]; exact Nat.le_refl _)] at ht
      have HT := Aside.mk (show hfind L z = none by rw [← ht]; simp [hfind])
      clear ht
      go_wp2_with fail
      have x3 := ((C2.it.setCell 0 (.int .i64 0)).setCell 1 (.int .i64 0)).setCell 2 (.int .u32 0)
      have y0 := x3.cell 0
      have y1 := x3.cell 1
      have y2 := x3.cell 2
      refine bodyPost_ret (v := .tuple #[.agg #[.int .i64 0, .int .i64 0, .int .u32 0], .bool false]) (by simp [results, Tryd.f24, go_sem, y0, y1, y2]) rfl ?_
      rw [HT.it]
      exact ⟨rfl, ⟨KF.it _ _ _⟩⟩
    · obtain ⟨y, hy⟩ : ∃ y, L[j]? = some y := ⟨_, List.getElem?_eq_getElem (by rw [HN.it]; exact hlt)⟩
      obtain ⟨g, rfl, _, y0, y1, y2, y3⟩ := HC.it j y hy
      have hb := K1.it.block g (World.block_lt_of_cell? w _ y0) (fun x => x)
      have z0 : wr.cell? ⟨g, j * 4, none⟩ = some (.int .i64 y.1) := by rw [World.cell?_of_block (w := w) hb]; exact y0
      have z1 : wr.cell? ⟨g, j * 4 + 1, none⟩ = some (.int .i64 y.2.c) := by rw [World.cell?_of_block (w := w) hb]; exact y1
      have z2 : wr.cell? ⟨g, j * 4 + 1 + 1, none⟩ = some (.int .i64 y.2.l) := by rw [World.cell?_of_block (w := w) hb]; exact y2
      have z3 : wr.cell? ⟨g, j * 4 + 1 + 2, none⟩ = some (.int .u32 (y.2.d : Nat)) := by rw [World.cell?_of_block (w := w) hb]; exact y3
      rw [hdrop_cons hy, hfind] at ht
      obtain ⟨yz, yc, yl, yd⟩ := y
      simp only at z0 z1 z2 z3 ht
      by_cases hyz : yz = z
      · rw [if_pos hyz] at ht
        have HT := Aside.mk ht
        have q1 : (yz == z) = true := by simp [hyz]
        clear ht hy y0 y1 y2 y3 hb hyz
        go_wp2_with fail
        have x3 := ((C2.it.setCell 0 (.int .i64 yc)).setCell 1 (.int .i64 yl)).setCell 2 (.int .u32 (yd : Nat))
        have y0 := x3.cell 0
        have y1 := x3.cell 1
        have y2 := x3.cell 2
        refine bodyPost_ret (v := .tuple #[.agg #[.int .i64 yc, .int .i64 yl, .int .u32 (yd : Nat)], .bool true]) (by simp [results, Tryd.f24, go_sem, y0, y1, y2]) rfl ?_
        rw [← HT.it]
        exact ⟨rfl, ⟨KF.it _ _ _⟩⟩
      · rw [if_neg hyz] at ht
        have HT := Aside.mk ht
        have q1 : (yz == z) = false := by simp [hyz]
        clear ht hy y0 y1 y2 y3 hb hyz
        go_wp2_with fail
        go_roundw
        case rel => exact ⟨j + 1, by go_num, by omega, by trivial, HT.it⟩
        case measure => simp [natOf22]; omega
theorem hdel_snoc (L : Hl) (z : Int) (y : Int × Pl) : hdel (L ++ [y]) z = if y.1 = z then hdel L z else hdel L z ++ [y] := by
  unfold hdel
  rw [List.filter_append]
  by_cases h : y.1 = z
  · simp [h]
  · simp [h]
theorem hdel_le (L : Hl) (z : Int) : (hdel L z).length ≤ L.length := List.length_filter_le _ _
set_option maxRecDepth 20000 in
set_option maxHeartbeats 2000000 in
theorem dwithout (h : RdH own w v L) (hl : L.length ≤ 2147483648) (z : Int) :
    Calls Tryd.prog 30 #[v, .int .i64 z] w fun e w' => ∃ v', e = .returned v' ∧ Aside (w'.ownsRow w.heap.size 69 4 v' (hdel L z).length (flat22 (hdel L z))) ∧ Aside (Keeps Nowhere w w') := by
  obtain ⟨a, c, rfl, hlc, hc⟩ := h
  obtain ⟨n, hn⟩ : ∃ n, L.length = n := ⟨_, rfl⟩
  have HN := Aside.mk hn
  obtain ⟨i0, hi, hz0, hz1, hz2⟩ := info_parts pinfo
  rw [hn] at hlc hl ⊢
  have HC := Aside.mk hc
  clear hc hn
  go_enter Tryd.func30, Tryd.ntmps30
  go_upto_region 3 with fail
  go_loopw [5, 6] (fun vo v wr => ∃ j : Nat, v = .int .i64 j ∧ j ≤ n ∧ Keeps Nowhere w wr ∧ wr.ownsRow w.heap.size 69 4 vo (hdel (L.take j) z).length (flat22 (hdel (L.take j) z))) (fun _ v _ => n - natOf22 v)
  case atStart => exact ⟨0, rfl, Nat.zero_le _, Keeps.refl _ _, World.ownsRow_nil _ _ _ _⟩
  case round =>
    obtain ⟨j, rfl, hj, hk, hr⟩ := hrel
    rcases Nat.eq_or_lt_of_le hj with rfl | hlt
    · obtain ⟨p0, p1, p2, rfl⟩ := owns_shapeK hr
      have HK := Aside.mk hk
      have HR := Aside.mk hr
      clear hk hr
      go_wp2_with fail
      go_ret
      refine ⟨_, rfl, ⟨?_⟩, HK⟩
      have e : L.take j = L := List.take_of_length_le (by rw [HN.it]; exact Nat.le_refl _)
      have r := HR.it
      rw [e] at r
      exact r
    · obtain ⟨y, hy⟩ : ∃ y, L[j]? = some y := ⟨_, List.getElem?_eq_getElem (by rw [HN.it]; exact hlt)⟩
      obtain ⟨g, rfl, _, y0, y1, y2, y3⟩ := HC.it j y hy
      have hb := hk.block g (World.block_lt_of_cell? w _ y0) (fun x => x)
      have z0 : wr.cell? ⟨g, j * 4, none⟩ = some (.int .i64 y.1) := by rw [World.cell?_of_block (w := w) hb]; exact y0
      have z1 : wr.cell? ⟨g, j * 4 + 1, none⟩ = some (.int .i64 y.2.c) := by rw [World.cell?_of_block (w := w) hb]; exact y1
      have z2 : wr.cell? ⟨g, j * 4 + 2, none⟩ = some (.int .i64 y.2.l) := by rw [World.cell?_of_block (w := w) hb]; exact y2
      have z3 : wr.cell? ⟨g, j * 4 + 3, none⟩ = some (.int .u32 (y.2.d : Nat)) := by rw [World.cell?_of_block (w := w) hb]; exact y3
      have HK := Aside.mk hk
      have HTK := Aside.mk (show hdel (L.take (j + 1)) z = if y.1 = z then hdel (L.take j) z else hdel (L.take j) z ++ [y] by rw [htake_snoc hy]; exact hdel_snoc _ _ _)
      have hdl : (hdel (L.take j) z).length ≤ j := Nat.le_trans (hdel_le _ _) (by rw [List.length_take]; omega)
      clear hk y0 y1 y2 y3 hy hb
      by_cases hxk : y.1 = z
      · rw [if_pos hxk] at HTK
        have hxd : (y.1 != z) = false := by simp [hxk]
        have HR := Aside.mk hr
        clear hxk hr
        go_wp2_with fail
        go_roundw
        case rel => exact ⟨j + 1, by go_num, by omega, HK.it, by rw [HTK.it]; exact HR.it⟩
        case measure => simp [natOf22]; omega
      · rw [if_neg hxk] at HTK
        have hxd : (y.1 != z) = true := by simp [hxk]
        have b1 : (hdel (L.take j) z).length + 1 ≤ maxLen := Nat.le_trans (show (hdel (L.take j) z).length + 1 ≤ 2147483649 by omega) (by decide)
        have b2 : ((hdel (L.take j) z).length + 1) * 32 ≤ 140737488355328 := by omega
        have b3 : ∀ o, w.heap.size ≤ (wr.alloc o).heap.size := fun o => by have := HK.it.size; rw [World.size_alloc]; omega
        clear hxk
        go_wp2_with (first
          | (at_builtin; refine wpList_append_own _ rfl _ _ 26 rfl w.heap.size 69 i0 (.agg #[.int .i64 0, .int .i64 0, .int .i64 0, .int .u32 0]) 4 32 Tryd.underlying26 hi hz0 hz1 hz2 rfl (by decide) _ _ _ rfl (hr.alloc _) ⟨wr.heap.size, 0, none⟩ 1 1 (fl4 y) rfl rfl (cells_four _ _ _ _ _ _) (by simp [fl4, Value.oneCell']) b1 b2 (b3 _) ?_
             intro v6 w6 hown6 hg6 hnil6)
          | go_in)
        go_roundw
        case rel =>
          refine ⟨j + 1, by go_num, by omega, ?_, ?_⟩
          · exact (HK.it.alloc _).next (grown_keeps hg6) (fun k e hlt => by have := (hr.lt k e).1; omega)
          · rw [HTK.it, flat22_snoc, List.length_append]
            exact hown6
        case measure => simp [natOf22]; omega
end Go.Proofs.YtjloedcikcamkaaDoor
