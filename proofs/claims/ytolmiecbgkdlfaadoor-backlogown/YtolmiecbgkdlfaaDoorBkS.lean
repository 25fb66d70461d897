/-
  the document's backlog: Put, Remove, Take
-/
import Derived.Test.YtolmiecbgkdlfaaDoorBkR
namespace Go.Proofs.YtolmiecbgkdlfaaDoor
open Go.RowKit

variable {w w' W : World} {own own' : Nat → Nat} {v : Value} {L : List Nat} {I : Nat → Prop}

/-- the two boxes of a call of the document's: its argument, its answer -/
structure Dx (w : World) (W : World) (bx : Nat) (most : Int) (v : Value) : Prop where
  k : Keeps Nowhere w W
  c1 : Cells W bx 31 [.int .i64 most, v]
  c2 : Cells W (bx + 1) 31 [.int .i64 0, .slice none 0 0]
  b : w.heap.size = bx
theorem Dx.start (w : World) (most : Int) (v : Value) : Dx w ((w.alloc (.cells #[.int .i64 most, v] 31)).alloc (.cells #[.int .i64 0, .slice none 0 0] 31)) w.heap.size most v := by
  refine ⟨((Keeps.refl _ _).alloc _).alloc _, (Cells.new w _ _).later (S := Nowhere) ((Keeps.refl _ _).alloc _) (fun x => x), ?_, rfl⟩
  have h := Cells.new (w.alloc (.cells #[.int .i64 most, v] 31)) 31 [.int .i64 0, .slice none 0 0]
  rw [World.size_alloc] at h
  exact h
theorem Dx.quiet {bx : Nat} {most : Int} (h : Dx w W bx most v) (hk : Keeps Nowhere W w') : Dx w w' bx most v := ⟨h.k.trans hk, h.c1.later hk (fun x => x), h.c2.later hk (fun x => x), h.b⟩
theorem Dx.cells {bx : Nat} {most : Int} (h : Dx w W bx most v) : W.cell? ⟨bx, 0, none⟩ = some (.int .i64 most) ∧ W.cell? ⟨bx, 1, none⟩ = some v ∧ W.cell? ⟨bx + 1, 0, none⟩ = some (.int .i64 0) ∧ W.cell? ⟨bx + 1, 1, none⟩ = some (.slice none 0 0) ∧ W.frozen? ⟨bx, 1, none⟩ = false ∧ W.frozen? ⟨bx + 1, 0, none⟩ = false ∧ W.frozen? ⟨bx + 1, 1, none⟩ = false :=
  ⟨by rw [h.c1.cell]; rfl, by rw [h.c1.cell]; rfl, by rw [h.c2.cell]; rfl, by rw [h.c2.cell]; rfl, h.c1.frozen 1, h.c2.frozen 0, h.c2.frozen 1⟩
/-- the argument's list is answered as it is -/
theorem Dx.same {bx : Nat} {most : Int} (h : Dx w W bx most v) : ((W.setCell ⟨bx + 1, 0, none⟩ (.int .i64 most)).setCell ⟨bx + 1, 1, none⟩ v).cell? ⟨bx + 1, 0, none⟩ = some (.int .i64 most) ∧ ((W.setCell ⟨bx + 1, 0, none⟩ (.int .i64 most)).setCell ⟨bx + 1, 1, none⟩ v).cell? ⟨bx + 1, 1, none⟩ = some v ∧ Keeps Nowhere w ((W.setCell ⟨bx + 1, 0, none⟩ (.int .i64 most)).setCell ⟨bx + 1, 1, none⟩ v) := by
  have x2 := (h.c2.setCell 0 (.int .i64 most)).setCell 1 v
  refine ⟨x2.cell 0, x2.cell 1, h.k.next (S' := fun k => k = bx + 1) (((Keeps.refl (fun k => k = bx + 1) W).setCell ⟨bx + 1, 0, none⟩ (.int .i64 most) (fun _ => rfl)).setCell ⟨bx + 1, 1, none⟩ v (fun _ => rfl)) (fun k e hlt => by have := h.b; omega)⟩
/-- a list of new memory is answered -/
theorem Dx.other {bx base : Nat} {most : Int} {u : Value} {n : Nat} (h : Dx w W bx most v) (hr : W.ownsRow base 34 1 u n (L.map e32)) (hn : n = L.length) (hb : bx + 2 ≤ base) :
    (((W.setCell ⟨bx, 1, none⟩ u).setCell ⟨bx + 1, 0, none⟩ (.int .i64 most)).setCell ⟨bx + 1, 1, none⟩ u).cell? ⟨bx + 1, 0, none⟩ = some (.int .i64 most) ∧ (((W.setCell ⟨bx, 1, none⟩ u).setCell ⟨bx + 1, 0, none⟩ (.int .i64 most)).setCell ⟨bx + 1, 1, none⟩ u).cell? ⟨bx + 1, 1, none⟩ = some u ∧
      Aside (RdN (give own w.heap.size 9) (((W.setCell ⟨bx, 1, none⟩ u).setCell ⟨bx + 1, 0, none⟩ (.int .i64 most)).setCell ⟨bx + 1, 1, none⟩ u) u L) ∧ Aside (Keeps Nowhere w (((W.setCell ⟨bx, 1, none⟩ u).setCell ⟨bx + 1, 0, none⟩ (.int .i64 most)).setCell ⟨bx + 1, 1, none⟩ u)) := by
  have x2 := ((h.c2.setOther ⟨bx, 1, none⟩ u (by simp)).setCell 0 (.int .i64 most)).setCell 1 u
  have kk : Keeps (fun k => k = bx ∨ k = bx + 1) W (((W.setCell ⟨bx, 1, none⟩ u).setCell ⟨bx + 1, 0, none⟩ (.int .i64 most)).setCell ⟨bx + 1, 1, none⟩ u) := (((Keeps.refl _ _).setCell _ _ (fun _ => .inl rfl)).setCell _ _ (fun _ => .inr rfl)).setCell _ _ (fun _ => .inr rfl)
  refine ⟨x2.cell 0, x2.cell 1, ⟨owns_rdN (w := w) (base := base) (owns_later hr kk (fun b hb' e => by have := owns_base hr b hb'; omega)) hn (by have := h.b; omega)⟩, ⟨h.k.next kk (fun k e hlt => by have := h.b; omega)⟩⟩

theorem readsK_drop {k l c : Nat} {a : Option Addr} (h : ReadsK 1 w (.slice a l c) l (L.map e32)) (hk : k ≤ l) : ReadsK 1 w (.slice (if c = k then a else a.map (fun x => x.add k)) (l - k) (c - k)) (l - k) ((L.drop k).map e32) := by
  obtain ⟨hl, a', c', e, h1, h2, h3, hc⟩ := h
  injection e with e1 _ e3
  subst e1 e3
  have hll : L.length = l := by rw [List.length_map] at hl; omega
  refine ⟨by rw [List.length_map, List.length_drop]; omega, _, _, rfl, by omega, by omega, fun hz => ?_, fun j u hj => ?_⟩
  · split at hz
    · omega
    · have := h3 (Option.map_eq_none_iff.1 hz); omega
  · rw [List.map_drop, List.getElem?_drop] at hj
    obtain ⟨g, o, rfl, hce⟩ := hc (k + j) u hj
    have hlt : k + j < l := by
      have := (List.getElem?_eq_some_iff.1 hj).1
      rw [List.length_map] at this
      omega
    refine ⟨g, o + k, ?_, by rw [Nat.add_assoc]; exact hce⟩
    rw [if_neg (by omega), Option.map_some, add_none]
theorem readsK_take {k l c : Nat} {a : Option Addr} (h : ReadsK 1 w (.slice a l c) l (L.map e32)) (hk : k ≤ l) : ReadsK 1 w (.slice a k c) k ((L.take k).map e32) := by
  obtain ⟨hl, a', c', e, h1, h2, h3, hc⟩ := h
  injection e with e1 _ e3
  subst e1 e3
  refine ⟨by rw [List.length_map, List.length_take]; rw [List.length_map] at hl; omega, _, _, rfl, by omega, h2, h3, fun j u hj => hc j u ?_⟩
  rw [List.map_take, List.getElem?_take] at hj
  split at hj
  · exact hj
  · cases hj
theorem erase_idx {L : List Nat} {id : Nat} (h : id ∈ L) : L.erase id = L.eraseIdx (L.idxOf id) := by
  induction L with
  | nil => cases h
  | cons x L ih =>
    by_cases e : x = id
    · subst e
      simp
    · have hb : (x == id) = false := beq_eq_false_iff_ne.2 e
      rw [List.erase_cons_tail (by rw [hb]; simp), List.idxOf_cons, hb, cond_false, List.eraseIdx_cons_succ, ih ((List.mem_cons.1 h).resolve_left (fun h => e h.symm))]
set_option maxRecDepth 20000 in
set_option maxHeartbeats 4000000 in
theorem dput (most id : Nat) (h : RdN own w v L) (hl : L.length ≤ 1024) :
    Calls Tryd.prog 24 #[.agg #[.int .i64 most, v], .int .u32 (id : Nat)] w fun e w' => ∃ a l c, e = .returned (.tuple #[.agg #[.int .i64 most, .slice a l c], .int .i64 (putC most L id)]) ∧ Aside (RdN (give own w.heap.size 9) w' (.slice a l c) (putL most L id)) ∧ Aside (Keeps Nowhere w w') := by
  unfold putC putL
  by_cases hm : id ∈ L
  · rw [if_pos hm, if_pos (.inl hm)]
    have X := Aside.mk (Dx.start w most v); have DA := Aside.mk (dat most id (h.quiet X.it.k) hl); have H := Aside.mk h; obtain ⟨a, c, rfl, hlc, hcm⟩ := h.shape; obtain ⟨n, hn⟩ : ∃ n, L.length = n := ⟨_, rfl⟩; have HN := Aside.mk hn; rw [hn] at hlc hl X DA ⊢; obtain ⟨bx, hbx⟩ : ∃ bx, w.heap.size = bx := ⟨_, rfl⟩; obtain ⟨W1, hW1⟩ : ∃ W1, ((w.alloc (.cells #[.int .i64 most, .slice a n c] 31)).alloc (.cells #[.int .i64 0, .slice none 0 0] 31)) = W1 := ⟨_, rfl⟩; rw [hW1, hbx] at X; rw [hW1] at DA; obtain ⟨d0, d1, _⟩ := X.it.cells; have HBX := Aside.mk hbx; clear h hn
    unfold atI at DA
    rw [if_pos hm] at DA
    have hge : (0 : Int) ≤ (L.idxOf id : Nat) := by omega
    go_enter Tryd.func24, Tryd.ntmps24
    go_upto_region 1 with fail
    clear hW1 hbx
    go_upto_if 9 with (go_at_call 27; refine DA.it.mono ?_; clear DA; rintro e w2 ⟨rfl, K2⟩)
    have X2 := Aside.mk (X.it.quiet K2.it)
    obtain ⟨f0, f1, g0, g1, z1, y0, y1⟩ := X2.it.cells
    clear d0 d1 X
    go_wp2_with fail
    obtain ⟨q0, q1, KK⟩ := X2.it.same
    refine bodyPost_ret (v := .tuple #[.agg #[.int .i64 most, .slice a n c], .int .i64 8]) (by simp [results, Tryd.f24, go_sem, q0, q1]) rfl ?_
    exact ⟨_, _, _, rfl, ⟨by have := H.it.step KK 9; rw [HN.it] at this; exact this⟩, ⟨KK⟩⟩
  · rw [if_neg hm]
    by_cases hr : most ≤ L.length
    · rw [if_pos hr, if_pos (.inr hr)]
      have X := Aside.mk (Dx.start w most v); have DA := Aside.mk (dat most id (h.quiet X.it.k) hl); have H := Aside.mk h; obtain ⟨a, c, rfl, hlc, hcm⟩ := h.shape; obtain ⟨n, hn⟩ : ∃ n, L.length = n := ⟨_, rfl⟩; have HN := Aside.mk hn; rw [hn] at hlc hl X DA ⊢; obtain ⟨bx, hbx⟩ : ∃ bx, w.heap.size = bx := ⟨_, rfl⟩; obtain ⟨W1, hW1⟩ : ∃ W1, ((w.alloc (.cells #[.int .i64 most, .slice a n c] 31)).alloc (.cells #[.int .i64 0, .slice none 0 0] 31)) = W1 := ⟨_, rfl⟩; rw [hW1, hbx] at X; rw [hW1] at DA; obtain ⟨d0, d1, _⟩ := X.it.cells; have HBX := Aside.mk hbx; clear h hn
      unfold atI at DA
      rw [if_neg hm] at DA
      rw [HN.it] at hr
      have hge : (most : Int) ≤ n := by omega
      go_enter Tryd.func24, Tryd.ntmps24
      go_upto_region 1 with fail
      clear hW1 hbx
      go_upto_if 9 with (go_at_call 27; refine DA.it.mono ?_; clear DA; rintro e w2 ⟨rfl, K2⟩)
      have X2 := Aside.mk (X.it.quiet K2.it)
      obtain ⟨f0, f1, g0, g1, z1, y0, y1⟩ := X2.it.cells
      clear d0 d1 X
      go_wp2_with fail
      obtain ⟨q0, q1, KK⟩ := X2.it.same
      refine bodyPost_ret (v := .tuple #[.agg #[.int .i64 most, .slice a n c], .int .i64 6]) (by simp [results, Tryd.f24, go_sem, q0, q1]) rfl ?_
      exact ⟨_, _, _, rfl, ⟨by have := H.it.step KK 9; rw [HN.it] at this; exact this⟩, ⟨KK⟩⟩
    · rw [if_neg hr, if_neg (by rintro (h | h); exact hm h; exact hr h)]
      have X := Aside.mk (Dx.start w most v); have DA := Aside.mk (dat most id (h.quiet X.it.k) hl); have H := Aside.mk h; obtain ⟨a, c, rfl, hlc, hcm⟩ := h.shape; obtain ⟨n, hn⟩ : ∃ n, L.length = n := ⟨_, rfl⟩; have HN := Aside.mk hn; rw [hn] at hlc hl X DA ⊢; obtain ⟨bx, hbx⟩ : ∃ bx, w.heap.size = bx := ⟨_, rfl⟩; obtain ⟨W1, hW1⟩ : ∃ W1, ((w.alloc (.cells #[.int .i64 most, .slice a n c] 31)).alloc (.cells #[.int .i64 0, .slice none 0 0] 31)) = W1 := ⟨_, rfl⟩; rw [hW1, hbx] at X; rw [hW1] at DA; obtain ⟨d0, d1, _⟩ := X.it.cells; have HBX := Aside.mk hbx; clear h hn
      unfold atI at DA
      rw [if_neg hm] at DA
      rw [HN.it] at hr
      have hge : ¬ (most : Int) ≤ n := by omega
      go_enter Tryd.func24, Tryd.ntmps24
      go_upto_region 1 with fail
      clear hW1 hbx
      go_upto_if 9 with (go_at_call 27; refine DA.it.mono ?_; clear DA; rintro e w2 ⟨rfl, K2⟩)
      have X2 := Aside.mk (X.it.quiet K2.it)
      obtain ⟨f0, f1, g0, g1, z1, y0, y1⟩ := X2.it.cells
      have R2 := Aside.mk (H.it.quiet (X.it.k.trans K2.it))
      have hs2 : Aside (bx + 2 ≤ w2.heap.size) := ⟨X2.it.c2.lt⟩
      clear d0 d1 X
      have a1 := alloc_cell (W := w2) (Obj.cells #[] 34) (a := ⟨bx, 1, none⟩) f1
      go_upto_region 6 with (first
        | (at_builtin; refine wpList_appendR rfl (.tmp 21) (.tmp 23) 29 rfl 34 (.int .u32 0) 1 4 Tryd.underlying29 u32info rfl (by decide) w3 ((Keeps.refl _ _).alloc _) w2.heap.size _ _ _ O3.it _ 1 [.int .u32 (id : Nat)] (readsK_new _ _ _) (fun x hx => by rw [List.mem_singleton.1 hx]; rfl) (by omega) (by unfold maxLen; omega) (by have := K3.it.size; rw [World.size_alloc] at this; omega) rfl rfl ?_; intro v4 w4 O4 K4 B4; obtain ⟨x0, x1, x2, hx⟩ := owns_shapeK O4.it; subst hx; have k3 : Keeps Nowhere w2 w3 := ((Keeps.refl _ _).alloc _).next K3.it (fun b e hlt => by simp only [Value.ownBlock, Option.some.injEq] at e; omega); have k4 : Keeps Nowhere w2 w4 := (k3.alloc _).next K4.it (fun b e hlt => by have := owns_base O3.it b e; omega); have X4 := Aside.mk (X2.it.quiet k4); obtain ⟨f0, f1, g0, g1, z1, y0, y1⟩ := X4.it.cells; clear k3 k4)
        | (at_builtin; refine wpList_appendR rfl (.tmp 18) (.tmp 20) 29 rfl 34 (.int .u32 0) 1 4 Tryd.underlying29 u32info rfl (by decide) (w2.alloc (.cells #[] 34)) (Keeps.refl _ _) w2.heap.size _ _ _ (owns_empty w2 34) _ n (L.map e32) (by have := (R2.it.quiet ((Keeps.refl _ _).alloc (.cells #[] 34))).r; rw [HN.it] at this; exact this) (one32 L) (by omega) (by unfold maxLen; omega) (by rw [World.size_alloc]; omega) rfl rfl ?_; intro v3 w3 O3 K3 B3; obtain ⟨x0, x1, x2, hx⟩ := owns_shapeK O3.it; subst hx)
        | fail)
      go_wp2_with fail
      obtain ⟨q0, q1, RR, KK⟩ := X4.it.other (own := own) (L := L ++ [id]) (by have := O4.it; rw [List.map_append]; exact this) (by simp; rw [HN.it]) hs2.it
      refine bodyPost_ret (v := .tuple #[.agg #[.int .i64 most, .slice x0 x1 x2], .int .i64 0]) (by simp [results, Tryd.f24, go_sem, q0, q1]) rfl ?_
      exact ⟨_, _, _, rfl, RR, KK⟩

set_option maxRecDepth 20000 in
set_option maxHeartbeats 4000000 in
theorem dtake (most : Int) (h : RdN own w v L) (hl : L.length ≤ 1024) :
    Calls Tryd.prog 25 #[.agg #[.int .i64 most, v]] w fun e w' => ∃ a l c, e = .returned (.tuple #[.agg #[.int .i64 most, .slice a l c], .int .u32 (hd0 L : Nat), .bool (some0 L)]) ∧ Aside (RdN (give own w.heap.size 9) w' (.slice a l c) L.tail) ∧ Aside (Keeps Nowhere w w') := by
  have X := Aside.mk (Dx.start w most v)
  have H := Aside.mk h
  obtain ⟨a, c, rfl, hlc, hc⟩ := h.at
  obtain ⟨W1, hW1⟩ : ∃ W1, ((w.alloc (.cells #[.int .i64 most, .slice a L.length c] 31)).alloc (.cells #[.int .i64 0, .slice none 0 0] 31)) = W1 := ⟨_, rfl⟩
  obtain ⟨bx, hbx⟩ : ∃ bx, w.heap.size = bx := ⟨_, rfl⟩
  cases L with
  | nil =>
    simp only [List.length_nil] at hW1 X hlc ⊢
    rw [hW1, hbx] at X
    obtain ⟨f0, f1, g0, g1, z1, y0, y1⟩ := X.it.cells
    clear h hc
    go_enter Tryd.func25, Tryd.ntmps25
    go_upto_region 1 with fail
    clear hW1 hbx
    go_wp2_with fail
    obtain ⟨q0, q1, KK⟩ := X.it.same
    refine bodyPost_ret (v := .tuple #[.agg #[.int .i64 most, .slice a 0 c], .int .u32 0, .bool false]) (by simp [results, Tryd.f25, go_sem, q0, q1]) rfl ?_
    exact ⟨_, _, _, rfl, ⟨H.it.step KK 9⟩, ⟨KK⟩⟩
  | cons x L =>
    obtain ⟨g, o, rfl, hx0⟩ := hc 0 x rfl
    rw [Nat.add_zero] at hx0
    rw [hW1, hbx] at X
    obtain ⟨n, hn⟩ : ∃ n, L.length = n := ⟨_, rfl⟩
    have HN := Aside.mk hn
    simp only [List.length_cons] at hW1 X hlc hl ⊢
    rw [hn] at hW1 X hlc hl ⊢
    have hx1 : W1.cell? ⟨g, o, none⟩ = some (.int .u32 (x : Nat)) := by rw [World.cell?_of_block (w := w) (X.it.k.block g (World.block_lt_of_cell? w _ hx0) (fun x => x))]; exact hx0
    obtain ⟨f0, f1, g0, g1, z1, y0, y1⟩ := X.it.cells
    have R2 := Aside.mk (readsK_drop (k := 1) (l := n + 1) (c := c) (a := some ⟨g, o, none⟩) (L := x :: L) (by have := (H.it.quiet X.it.k).r; rw [List.length_cons, hn] at this; exact this) (by omega))
    have hs2 : Aside (bx + 2 ≤ W1.heap.size) := ⟨X.it.c2.lt⟩
    have a1 := alloc_cell (W := W1) (Obj.cells #[] 34) (a := ⟨bx, 1, none⟩) f1
    have hc1 : (1 : Int) ≤ c := by omega
    clear h hc hn hx0
    by_cases hce : c = 1
    · subst hce
      obtain rfl : n = 0 := by omega
      rw [if_pos rfl] at R2
      go_enter Tryd.func25, Tryd.ntmps25
      go_upto_region 1 with fail
      clear hW1 hbx
      go_upto_region 4 with fail
      go_upto_region 5 with (first
        | (at_builtin; refine wpList_appendR rfl (.tmp 15) (.tmp 18) 29 rfl 34 (.int .u32 0) 1 4 Tryd.underlying29 u32info rfl (by decide) (W1.alloc (.cells #[] 34)) (Keeps.refl _ _) W1.heap.size _ _ _ (owns_empty W1 34) _ 0 (L.map e32) (by have := R2.it.later ((Keeps.refl Nowhere _).alloc (.cells #[] 34)) (fun _ _ x => x); exact this) (one32 L) (by omega) (by unfold maxLen; omega) (by rw [World.size_alloc]; omega) rfl rfl ?_; intro v3 w3 O3 K3 B3; obtain ⟨x0, x1, x2, hx⟩ := owns_shapeK O3.it; subst hx; have k3 : Keeps Nowhere W1 w3 := ((Keeps.refl _ _).alloc _).next K3.it (fun b e hlt => by simp only [Value.ownBlock, Option.some.injEq] at e; omega); have X4 := Aside.mk (X.it.quiet k3); obtain ⟨f0, f1, g0, g1, z1, y0, y1⟩ := X4.it.cells; clear k3)
        | fail)
      go_wp2_with fail
      obtain ⟨q0, q1, RR, KK⟩ := X4.it.other (own := own) (L := L) (by have := O3.it; rw [List.nil_append] at this; exact this) (by have := HN.it; omega) hs2.it
      refine bodyPost_ret (v := .tuple #[.agg #[.int .i64 most, .slice x0 x1 x2], .int .u32 (x : Nat), .bool true]) (by simp [results, Tryd.f25, go_sem, q0, q1]) rfl ?_
      exact ⟨_, _, _, rfl, RR, KK⟩
    · rw [if_neg hce, Option.map_some, add_none] at R2
      have hl0 : ((n : Int) + 1 == 0) = false := beq_eq_false_iff_ne.2 (by omega)
      go_enter Tryd.func25, Tryd.ntmps25
      go_upto_region 1 with fail
      clear hW1 hbx
      go_upto_region 4 with fail
      go_upto_region 5 with (first
        | (at_builtin; refine wpList_appendR rfl (.tmp 15) (.tmp 18) 29 rfl 34 (.int .u32 0) 1 4 Tryd.underlying29 u32info rfl (by decide) (W1.alloc (.cells #[] 34)) (Keeps.refl _ _) W1.heap.size _ _ _ (owns_empty W1 34) _ n (L.map e32) (by have := R2.it.later ((Keeps.refl Nowhere _).alloc (.cells #[] 34)) (fun _ _ x => x); exact this) (one32 L) (by omega) (by unfold maxLen; omega) (by rw [World.size_alloc]; omega) rfl rfl ?_; intro v3 w3 O3 K3 B3; obtain ⟨x0, x1, x2, hx⟩ := owns_shapeK O3.it; subst hx; have k3 : Keeps Nowhere W1 w3 := ((Keeps.refl _ _).alloc _).next K3.it (fun b e hlt => by simp only [Value.ownBlock, Option.some.injEq] at e; omega); have X4 := Aside.mk (X.it.quiet k3); obtain ⟨f0, f1, g0, g1, z1, y0, y1⟩ := X4.it.cells; clear k3)
        | fail)
      go_wp2_with fail
      obtain ⟨q0, q1, RR, KK⟩ := X4.it.other (own := own) (L := L) (by have := O3.it; rw [List.nil_append] at this; exact this) (by have := HN.it; omega) hs2.it
      refine bodyPost_ret (v := .tuple #[.agg #[.int .i64 most, .slice x0 x1 x2], .int .u32 (x : Nat), .bool true]) (by simp [results, Tryd.f25, go_sem, q0, q1]) rfl ?_
      exact ⟨_, _, _, rfl, RR, KK⟩
set_option maxRecDepth 20000 in
set_option maxHeartbeats 4000000 in
theorem dremove (most : Int) (id : Nat) (h : RdN own w v L) (hl : L.length ≤ 1024) :
    Calls Tryd.prog 26 #[.agg #[.int .i64 most, v], .int .u32 (id : Nat)] w fun e w' => ∃ a l c, e = .returned (.tuple #[.agg #[.int .i64 most, .slice a l c], .bool (decide (id ∈ L))]) ∧ Aside (RdN (give own w.heap.size 9) w' (.slice a l c) (L.erase id)) ∧ Aside (Keeps Nowhere w w') := by
  by_cases hm : id ∈ L
  · rw [decide_eq_true hm]
    have X := Aside.mk (Dx.start w most v); have DA := Aside.mk (dat most id (h.quiet X.it.k) hl); have H := Aside.mk h; obtain ⟨a, c, rfl, hlc, hcm⟩ := h.shape; obtain ⟨n, hn⟩ : ∃ n, L.length = n := ⟨_, rfl⟩; have HN := Aside.mk hn; rw [hn] at hlc hl X DA ⊢; obtain ⟨bx, hbx⟩ : ∃ bx, w.heap.size = bx := ⟨_, rfl⟩; obtain ⟨W1, hW1⟩ : ∃ W1, ((w.alloc (.cells #[.int .i64 most, .slice a n c] 31)).alloc (.cells #[.int .i64 0, .slice none 0 0] 31)) = W1 := ⟨_, rfl⟩; rw [hW1, hbx] at X; rw [hW1] at DA; obtain ⟨d0, d1, _⟩ := X.it.cells; have HBX := Aside.mk hbx; clear h hn
    unfold atI at DA
    rw [if_pos hm] at DA
    obtain ⟨i, hi⟩ : ∃ i, L.idxOf id = i := ⟨_, rfl⟩
    have hin : i < n := by rw [← hi, ← HN.it]; exact List.idxOf_lt_length_of_mem hm
    have HE : Aside (L.erase id = L.eraseIdx i) := ⟨by rw [← hi]; exact erase_idx hm⟩
    rw [hi] at DA
    have hi0 : ¬ (i : Int) < 0 := by omega
    have hi1 : (0 : Int) ≤ i := by omega
    have hi2 : (i : Int) ≤ c := by omega
    have hi3 : (i : Int) ≤ 9223372036854775806 := by omega
    have hi4 : (i : Int) + 1 ≤ n := by omega
    clear hi
    go_enter Tryd.func26, Tryd.ntmps26
    go_upto_region 1 with fail
    clear hW1 hbx
    go_upto_region 2 with (go_at_call 27; refine DA.it.mono ?_; clear DA; rintro e w2 ⟨rfl, K2⟩)
    have X2 := Aside.mk (X.it.quiet K2.it)
    obtain ⟨f0, f1, g0, g1, z1, y0, y1⟩ := X2.it.cells
    have R2 := Aside.mk (show ReadsK 1 w2 (.slice a n c) n (L.map e32) by have := (H.it.quiet (X.it.k.trans K2.it)).r; rw [HN.it] at this; exact this)
    have hs2 : Aside (bx + 2 ≤ w2.heap.size) := ⟨X2.it.c2.lt⟩
    have RT := Aside.mk (readsK_take R2.it (Nat.le_of_lt hin))
    have RD0 := Aside.mk (readsK_drop (k := i + 1) R2.it hin)
    have a1 := alloc_cell (W := w2) (Obj.cells #[] 34) (a := ⟨bx, 1, none⟩) f1
    obtain ⟨g, o, rfl⟩ : ∃ g o, a = some ⟨g, o, none⟩ := by
      obtain ⟨hl', a', c', e, _, _, _, h3⟩ := R2.it
      injection e with e1 _ e3
      subst e1 e3
      obtain ⟨u, hu⟩ : ∃ u, (L.map e32)[0]? = some u := ⟨_, List.getElem?_eq_getElem (by omega)⟩
      obtain ⟨g, o, e, _⟩ := h3 0 u hu
      exact ⟨g, o, e⟩
    clear d0 d1 X
    go_upto_region 5 with (first
      | (at_builtin; refine wpList_appendR rfl (.tmp 14) (.tmp 18) 29 rfl 34 (.int .u32 0) 1 4 Tryd.underlying29 u32info rfl (by decide) (w2.alloc (.cells #[] 34)) (Keeps.refl _ _) w2.heap.size _ _ _ (owns_empty w2 34) _ i ((L.take i).map e32) (by have := RT.it.later ((Keeps.refl Nowhere _).alloc (.cells #[] 34)) (fun _ _ x => x); exact this) (one32 _) (by omega) (by unfold maxLen; omega) (by rw [World.size_alloc]; omega) rfl rfl ?_; intro v3 w3 O3 K3 B3; obtain ⟨u0, u1, u2, hx⟩ := owns_shapeK O3.it; subst hx; have k3 : Aside (Keeps Nowhere w2 w3) := ⟨((Keeps.refl _ _).alloc _).next K3.it (fun b e hlt => by simp only [Value.ownBlock, Option.some.injEq] at e; omega)⟩; have X3 := Aside.mk (X2.it.quiet k3.it))
      | fail)
    obtain ⟨f0, f1, g0, g1, z1, y0, y1⟩ := X3.it.cells
    by_cases hce : c = i + 1
    · subst hce
      obtain rfl : n = i + 1 := by omega
      rw [if_pos rfl] at RD0
      have RD : Aside (ReadsK 1 w2 (.slice (some ⟨g, o, none⟩) 0 0) 0 ((L.drop (i + 1)).map e32)) := ⟨by have := RD0.it; simpa using this⟩
      clear RD0 a1
      go_upto_region 6 with (first
        | (at_builtin; refine wpList_appendR rfl (.tmp 20) (.tmp 25) 29 rfl 34 (.int .u32 0) 1 4 Tryd.underlying29 u32info rfl (by decide) w3 (Keeps.refl _ _) w2.heap.size _ _ _ O3.it _ 0 ((L.drop (i + 1)).map e32) (by have := RD.it.later k3.it (fun _ _ x => x); exact this) (one32 _) (by omega) (by unfold maxLen; omega) k3.it.size rfl rfl ?_; intro v4 w4 O4 K4 B4; obtain ⟨x0, x1, x2, hx⟩ := owns_shapeK O4.it; subst hx; have k4 : Keeps Nowhere w2 w4 := k3.it.next K4.it (fun b e hlt => by have := owns_base O3.it b e; omega); have X4 := Aside.mk (X2.it.quiet k4); obtain ⟨f0, f1, g0, g1, z1, y0, y1⟩ := X4.it.cells; clear k4)
        | fail)
      go_wp2_with fail
      obtain ⟨q0, q1, RR, KK⟩ := X4.it.other (own := own) (L := L.eraseIdx i) (by have := O4.it; rw [List.nil_append, ← List.map_append, ← List.eraseIdx_eq_take_drop_succ] at this; exact this) (by rw [List.length_eraseIdx, HN.it, if_pos hin]; omega) hs2.it
      refine bodyPost_ret (v := .tuple #[.agg #[.int .i64 most, .slice x0 x1 x2], .bool true]) (by simp [results, Tryd.f26, go_sem, q0, q1]) rfl ?_
      exact ⟨_, _, _, rfl, by rw [HE.it]; exact RR, KK⟩
    · rw [if_neg hce, Option.map_some, add_none] at RD0
      have RD := RD0
      clear RD0 a1
      go_upto_region 6 with (first
        | (at_builtin; refine wpList_appendR rfl (.tmp 20) (.tmp 25) 29 rfl 34 (.int .u32 0) 1 4 Tryd.underlying29 u32info rfl (by decide) w3 (Keeps.refl _ _) w2.heap.size _ _ _ O3.it _ (n - (i + 1)) ((L.drop (i + 1)).map e32) (by have := RD.it.later k3.it (fun _ _ x => x); exact this) (one32 _) (by omega) (by unfold maxLen; omega) k3.it.size rfl rfl ?_; intro v4 w4 O4 K4 B4; obtain ⟨x0, x1, x2, hx⟩ := owns_shapeK O4.it; subst hx; have k4 : Keeps Nowhere w2 w4 := k3.it.next K4.it (fun b e hlt => by have := owns_base O3.it b e; omega); have X4 := Aside.mk (X2.it.quiet k4); obtain ⟨f0, f1, g0, g1, z1, y0, y1⟩ := X4.it.cells; clear k4)
        | fail)
      go_wp2_with fail
      obtain ⟨q0, q1, RR, KK⟩ := X4.it.other (own := own) (L := L.eraseIdx i) (by have := O4.it; rw [List.nil_append, ← List.map_append, ← List.eraseIdx_eq_take_drop_succ] at this; exact this) (by rw [List.length_eraseIdx, HN.it, if_pos hin]; omega) hs2.it
      refine bodyPost_ret (v := .tuple #[.agg #[.int .i64 most, .slice x0 x1 x2], .bool true]) (by simp [results, Tryd.f26, go_sem, q0, q1]) rfl ?_
      exact ⟨_, _, _, rfl, by rw [HE.it]; exact RR, KK⟩
  · rw [decide_eq_false hm]
    have X := Aside.mk (Dx.start w most v); have DA := Aside.mk (dat most id (h.quiet X.it.k) hl); have H := Aside.mk h; obtain ⟨a, c, rfl, hlc, hcm⟩ := h.shape; obtain ⟨n, hn⟩ : ∃ n, L.length = n := ⟨_, rfl⟩; have HN := Aside.mk hn; rw [hn] at hlc hl X DA ⊢; obtain ⟨bx, hbx⟩ : ∃ bx, w.heap.size = bx := ⟨_, rfl⟩; obtain ⟨W1, hW1⟩ : ∃ W1, ((w.alloc (.cells #[.int .i64 most, .slice a n c] 31)).alloc (.cells #[.int .i64 0, .slice none 0 0] 31)) = W1 := ⟨_, rfl⟩; rw [hW1, hbx] at X; rw [hW1] at DA; obtain ⟨d0, d1, _⟩ := X.it.cells; have HBX := Aside.mk hbx; clear h hn
    unfold atI at DA
    rw [if_neg hm] at DA
    go_enter Tryd.func26, Tryd.ntmps26
    go_upto_region 1 with fail
    clear hW1 hbx
    go_upto_region 2 with (go_at_call 27; refine DA.it.mono ?_; clear DA; rintro e w2 ⟨rfl, K2⟩)
    have X2 := Aside.mk (X.it.quiet K2.it)
    obtain ⟨f0, f1, g0, g1, z1, y0, y1⟩ := X2.it.cells
    clear d0 d1 X
    go_wp2_with fail
    obtain ⟨q0, q1, KK⟩ := X2.it.same
    refine bodyPost_ret (v := .tuple #[.agg #[.int .i64 most, .slice a n c], .bool false]) (by simp [results, Tryd.f26, go_sem, q0, q1]) rfl ?_
    exact ⟨_, _, _, rfl, ⟨by have := H.it.step KK 9; rw [HN.it] at this; rw [List.erase_of_not_mem hm]; exact this⟩, ⟨KK⟩⟩
end Go.Proofs.YtolmiecbgkdlfaaDoor
