import Derived.Test.YtambdgcogldbgaaDoorTrU
import Derived.BigRegion
/-
  the document's history (culvertref24): with
-/
namespace Go.Proofs.YtambdgcogldbgaaDoor
open Go.RowKit Go.Maps

variable {w w' W : World} {own own' : Nat → Nat} {v : Value} {U : Ds} {I : Nat → Prop} {k : Int} {d : Dr}
theorem rinfo : (Tryd.prog.info? 45).map (fun i => (i.zero, i.size, i.bytes)) = some (some (.agg #[.int .i64 0, .slice none 0 0, .int .i64 0, .bool false, .bool false]), 5, 48) := by kernel_rfl
theorem owns_sl {base n : Nat} {xs : List Value} {k : Nat} {e : TypeId} (h : w.ownsRow base e k v n xs) : ∃ q c, v = .slice q n c := owns_val h
/-- append of a row -/
theorem app5 {base : Nat} {vo : Value} (hown : W.ownsRow base 45 5 vo U.length (flat24 U)) (hu : ∃ q l c, d.u = .slice q l c) (hn : U.length + 1 ≤ 2147483648) (hb : base ≤ W.heap.size) {W2 : World} (hW : W2 = W.alloc (.cells (fl5 d).toArray 45) ∨ W2 = (W.alloc (.cells (fl5 d).toArray 45)).drew) :
    ∃ q c w', (∀ ty, (Builtin.append_ #[26, 26] ty #[vo, .slice (some ⟨W.heap.size, 0, none⟩) 1 1]).run Tryd.prog W2 = .ok (.slice q (U.length + 1) c) w') ∧ Aside (w'.ownsRow base 45 5 (.slice q (U.length + 1) c) (U ++ [d]).length (flat24 (U ++ [d]))) ∧ Aside (Keeps (fun b => vo.ownBlock = some b) W w') := by
  obtain ⟨i, hi, hz0, hz1, hz2⟩ := info_parts rinfo
  have hr : ReadsK 5 W2 (.slice (some ⟨W.heap.size, 0, none⟩) 1 1) 1 (fl5 d) := by
    rcases hW with rfl | rfl
    · exact readsK_new W 45 (fl5 d)
    · exact readsK_new W 45 (fl5 d)
  have hK : Keeps Nowhere W W2 := by
    rcases hW with rfl | rfl
    · exact (Keeps.refl _ _).alloc _
    · exact ((Keeps.refl _ _).alloc _).drew
  have h1 : ∀ u ∈ fl5 d, u.oneCell' = true := by
    intro u hu'
    obtain ⟨q, l, c, e⟩ := hu
    simp only [fl5, List.mem_cons, List.not_mem_nil, or_false] at hu'
    rcases hu' with rfl | rfl | rfl | rfl | rfl
    · rfl
    · rw [e]; rfl
    · rfl
    · rfl
    · rfl
  have ho2 := owns_later hown hK (fun _ _ x => x)
  obtain ⟨v', w', run, o', g', _⟩ := run_appendR (P := Tryd.prog) W2 base 26 45 i _ 5 48 Tryd.underlying26 hi hz0 hz1 hz2 rfl (by decide) vo U.length (flat24 U) ho2 _ 1 (fl5 d) hr h1 (by omega) (by unfold maxLen; omega) (Nat.le_trans hb hK.size)
  obtain ⟨q, c, rfl⟩ := owns_sl o'
  refine ⟨q, c, w', run, ⟨?_⟩, ⟨?_⟩⟩
  · rw [flat24_snoc, List.length_append]
    exact o'
  · refine (hK.mono (fun _ e _ => e.elim)).trans (grown_keeps g')
/-- rows that the document has just made -/
theorem owns_rdD {base n : Nat} (h : w'.ownsRow base 45 5 v n (flat24 U)) (hn : n = U.length) (hb : w.heap.size ≤ base) (hu : ∀ d ∈ U, RdO (give own w.heap.size 9) 9 w' d.u d.r.wr) : RdD (give own w.heap.size 9) w' v U := by
  subst hn
  refine ⟨?_, hu⟩
  rcases h.2 with ⟨rfl, h0⟩ | ⟨g, cap, cur, rfl, hg, hc, hn, hm, hs, ht⟩
  · obtain rfl : U = [] := List.eq_nil_of_length_eq_zero h0
    exact (RdD.nil _ _).s
  · refine ⟨_, cap, rfl, hn, fun j x hj => ⟨g, rfl, give_new (by omega), ?_⟩⟩
    have key : ∀ k u, (fl5 x)[k]? = some u → w'.cell? ⟨g, j * 5 + k, none⟩ = some u := fun k u hk => by
      have := h.cells rfl (j * 5 + k) _ (flat24_at U j x hj k _ hk)
      rwa [add_none, Nat.zero_add] at this
    exact ⟨key 0 _ rfl, key 1 _ rfl, key 2 _ rfl, key 3 _ rfl, key 4 _ rfl⟩
/-- how far the copy has come -/
def Wi (U : Ds) (d : Dr) (j : Nat) (done : Bool) (V : Ds) : Prop := (done = false ∧ V = U.take j ∧ ∀ x ∈ U.take j, x.k < d.k) ∨ (done = true ∧ V = dset (U.take j) d ∧ ∃ x ∈ U.take j, d.k ≤ x.k)
theorem up_at (hu : (tk (mdl U)).Pairwise (· < ·)) {j : Nat} {y : Dr} (hy : U[j]? = some y) : ∀ x ∈ U.take j, x.k < y.k := by
  intro x hx
  obtain ⟨i, hi⟩ := List.getElem?_of_mem hx
  rw [List.getElem?_take] at hi
  split at hi
  · rename_i hij
    have e : ∀ (t : Nat) (z : Dr), U[t]? = some z → (tk (mdl U))[t]? = some z.k := fun t z h => by simp [tk, mdl, h]
    have h1 := e i x hi
    have h2 := e j y hy
    have hjl := (List.getElem?_eq_some_iff.1 h2).1
    have hil := (List.getElem?_eq_some_iff.1 h1).1
    have := List.pairwise_iff_getElem.1 hu i j hil hjl hij
    rw [List.getElem?_eq_getElem hil] at h1
    rw [List.getElem?_eq_getElem hjl] at h2
    simp only [Option.some.injEq] at h1 h2
    omega
  · cases hi
/-- behind the first test of a round -/
def Wm (U : Ds) (d : Dr) (j : Nat) (y : Dr) (done : Bool) (V : Ds) : Prop := (done = false ∧ V = U.take j ∧ (∀ x ∈ U.take j, x.k < d.k) ∧ y.k < d.k) ∨ (done = true ∧ (if y.k = d.k then V else V ++ [y]) = dset (U.take (j + 1)) d ∧ ∃ x ∈ U.take (j + 1), d.k ≤ x.k)
theorem Wi.done {j : Nat} {y : Dr} {V : Ds} (h : Wi U d j true V) (hu : (tk (mdl U)).Pairwise (· < ·)) (hy : U[j]? = some y) : Wm U d j y true V := by
  rcases h with ⟨h, _⟩ | ⟨_, rfl, x, hx, hk⟩
  · cases h
  · have h1 := up_at hu hy x hx
    refine .inr ⟨rfl, ?_, x, by rw [dtake_snoc hy]; exact List.mem_append_left _ hx, hk⟩
    rw [if_neg (by omega), dtake_snoc hy, dset_high ⟨x, hx, hk⟩]
theorem Wi.low {j : Nat} {y : Dr} {V : Ds} (h : Wi U d j false V) (hk : y.k < d.k) : Wm U d j y false V := by
  rcases h with ⟨_, h1, h2⟩ | ⟨h, _⟩
  · exact .inl ⟨rfl, h1, h2, hk⟩
  · cases h
theorem Wi.put {j : Nat} {y : Dr} {V : Ds} (h : Wi U d j false V) (hy : U[j]? = some y) (hk : d.k ≤ y.k) : Wm U d j y true (V ++ [d]) := by
  rcases h with ⟨_, rfl, h2⟩ | ⟨h, _⟩
  · refine .inr ⟨rfl, ?_, y, by rw [dtake_snoc hy]; exact List.mem_append_right _ (List.mem_singleton.2 rfl), hk⟩
    rw [dtake_snoc hy, dset_low h2]
    show _ = U.take j ++ (if y.k < d.k then y :: dset [] d else if y.k = d.k then d :: [] else d :: y :: [])
    rw [if_neg (show ¬ y.k < d.k by omega)]
    split <;> simp
  · cases h
theorem Wm.next {j : Nat} {y : Dr} {V : Ds} {done : Bool} (h : Wm U d j y done V) (hy : U[j]? = some y) : Wi U d (j + 1) done (if y.k = d.k then V else V ++ [y]) := by
  rcases h with ⟨rfl, rfl, h2, h3⟩ | ⟨rfl, h1, h2⟩
  · refine .inl ⟨rfl, ?_, ?_⟩
    · rw [if_neg (by omega), dtake_snoc hy]
    · rw [dtake_snoc hy]
      intro x hx
      rcases List.mem_append.1 hx with hx | hx
      · exact h2 x hx
      · rw [List.mem_singleton] at hx; subst hx; exact h3
  · exact .inr ⟨rfl, h1, h2⟩
theorem Wi.len {j : Nat} {V : Ds} {done : Bool} (h : Wi U d j done V) : V.length ≤ U.length + 1 := by
  have hl : (U.take j).length ≤ U.length := by rw [List.length_take]; omega
  rcases h with ⟨_, rfl, _⟩ | ⟨_, rfl, _⟩
  · omega
  · have := dset_len (U.take j) d; omega
theorem Wi.mem {j : Nat} {V : Ds} {done : Bool} (h : Wi U d j done V) : ∀ x ∈ V, x = d ∨ x ∈ U := by
  rcases h with ⟨_, rfl, _⟩ | ⟨_, rfl, _⟩
  · exact fun x hx => .inr (List.mem_of_mem_take hx)
  · exact fun x hx => (dset_mem hx).imp id List.mem_of_mem_take
/-- the copy's box and rows -/
structure Ws (W1 : World) (Bs ob : Nat) (W : World) (vo : Value) (V : Ds) : Prop where
  c : Cells W ob 28 [vo]
  r : W.ownsRow Bs 45 5 vo V.length (flat24 V)
  k : Keeps (fun x => x = ob) W1 W
  b : Bs ≤ W.heap.size
variable {W1 : World} {Bs ob : Nat} {vo : Value} {V : Ds}
theorem Ws.quiet (h : Ws W1 Bs ob W vo V) (hk : Keeps Nowhere W w') : Ws W1 Bs ob w' vo V := ⟨h.c.later hk (fun x => x), owns_later h.r hk (fun _ _ x => x), h.k.trans (hk.mono (fun _ e _ => e.elim)), Nat.le_trans h.b hk.size⟩
theorem Ws.app (h : Aside (Ws W1 Bs ob W vo V)) (hB : W1.heap.size ≤ Bs) (hu : ∃ q l c, d.u = .slice q l c) (hn : V.length + 1 ≤ 2147483648) {W2 : World} (hW : W2 = W.alloc (.cells (fl5 d).toArray 45) ∨ W2 = (W.alloc (.cells (fl5 d).toArray 45)).drew) :
    ∃ q c w', (∀ ty, (Builtin.append_ #[26, 26] ty #[vo, .slice (some ⟨W.heap.size, 0, none⟩) 1 1]).run Tryd.prog W2 = .ok (.slice q (V.length + 1) c) w') ∧ w'.cell? ⟨ob, 0, none⟩ = some vo ∧ w'.frozen? ⟨ob, 0, none⟩ = false ∧ Aside (Ws W1 Bs ob (w'.setCell ⟨ob, 0, none⟩ (.slice q (V.length + 1) c)) (.slice q (V.length + 1) c) (V ++ [d])) := by
  obtain ⟨q, c, w', run, R, K⟩ := app5 h.it.r hu hn h.it.b hW
  have hne := cells_row_ne h.it.c h.it.r (by decide)
  have c' := h.it.c.later K.it hne
  have hne2 := cells_row_ne c' R.it (by decide)
  have K2 : Keeps (fun x => x = ob) w' (w'.setCell ⟨ob, 0, none⟩ (.slice q (V.length + 1) c)) := (Keeps.refl _ _).setCell _ _ (fun _ => rfl)
  have K3 : Keeps (fun x => x = ob) W1 w' := h.it.k.next K.it (fun x hx hlt => by have := owns_base h.it.r x hx; omega)
  exact ⟨q, c, w', run, by rw [c'.cell]; rfl, c'.frozen 0, ⟨c'.setCell 0 (.slice q (V.length + 1) c), owns_later R.it K2 (fun x hx e => hne2 (by rw [hx, e])), K3.trans K2, Nat.le_trans h.it.b (Nat.le_trans K.it.size K2.size)⟩⟩
attribute [-go_sem] Builtin.append_
set_option maxRecDepth 20000 in
set_option maxHeartbeats 4000000 in
theorem dWith (h : RdD own w v U) (hl : U.length ≤ 1073741824) (hu : (tk (mdl U)).Pairwise (· < ·)) (hd : RdO own 9 w d.u d.r.wr) :
    Calls Tryd.prog 26 #[.agg #[v], rowV d] w fun e w' => ∃ q l c, e = .returned (.agg #[.slice q l c]) ∧ Aside (RdD (give own w.heap.size 9) w' (.slice q l c) (dset U d)) ∧ Aside (Keeps Nowhere w w') := by
  have H := Aside.mk h
  have HD := Aside.mk hd
  have HU := Aside.mk hu
  obtain ⟨a, c, rfl, hlc, hc⟩ := h.s
  obtain ⟨n, hn⟩ : ∃ n, U.length = n := ⟨_, rfl⟩
  have HN := Aside.mk hn
  rw [hn] at hlc hl ⊢
  obtain ⟨dk, du, dr⟩ := d
  obtain ⟨uq, uc, hdu⟩ := hd.sl
  simp only at hdu
  subst hdu
  obtain ⟨ul, hul⟩ : ∃ ul, dr.wr.length = ul := ⟨_, rfl⟩
  simp only [rowV, hul]
  obtain ⟨bx, hbx⟩ : ∃ bx, w.heap.size = bx := ⟨_, rfl⟩
  obtain ⟨W1, hW1⟩ : ∃ W1, ((((w.alloc (.cells #[.slice a n c] 28)).alloc (.cells #[.int .i64 dk, .slice uq ul uc, .int .i64 ((dr.rd : Nat) : Int), .bool dr.cl, .bool dr.en] 45)).alloc (.cells #[.slice none 0 0] 28)).alloc (.cells #[.slice none 0 0] 28)) = W1 := ⟨_, rfl⟩
  have K1 : Aside (Keeps Nowhere w W1) := ⟨by rw [← hW1]; exact ((((Keeps.refl _ _).alloc _).alloc _).alloc _).alloc _⟩
  have C1 : Aside (Cells W1 bx 28 [.slice a n c]) := ⟨by rw [← hW1, ← hbx]; exact (Cells.new w _ _).later (S := Nowhere) ((((Keeps.refl _ _).alloc _).alloc _).alloc _) (fun x => x)⟩
  have C2 : Aside (Cells W1 (bx + 1) 45 [.int .i64 dk, .slice uq ul uc, .int .i64 ((dr.rd : Nat) : Int), .bool dr.cl, .bool dr.en]) := ⟨by
    have h := Cells.new (w.alloc (.cells #[.slice a n c] 28)) 45 [.int .i64 dk, .slice uq ul uc, .int .i64 ((dr.rd : Nat) : Int), .bool dr.cl, .bool dr.en]
    rw [World.size_alloc, hbx] at h
    rw [← hW1]; exact h.later (S := Nowhere) (((Keeps.refl _ _).alloc _).alloc _) (fun x => x)⟩
  have C3 : Aside (Cells W1 (bx + 1 + 1) 28 [.slice none 0 0]) := ⟨by
    have h := Cells.new ((w.alloc (.cells #[.slice a n c] 28)).alloc (.cells #[.int .i64 dk, .slice uq ul uc, .int .i64 ((dr.rd : Nat) : Int), .bool dr.cl, .bool dr.en] 45)) 28 [.slice none 0 0]
    rw [World.size_alloc, World.size_alloc, hbx] at h
    rw [← hW1]; exact h.later (S := Nowhere) ((Keeps.refl _ _).alloc _) (fun x => x)⟩
  have C4 : Aside (Cells W1 (bx + 1 + 1 + 1) 28 [.slice none 0 0]) := ⟨by
    have h := Cells.new (((w.alloc (.cells #[.slice a n c] 28)).alloc (.cells #[.int .i64 dk, .slice uq ul uc, .int .i64 ((dr.rd : Nat) : Int), .bool dr.cl, .bool dr.en] 45)).alloc (.cells #[.slice none 0 0] 28)) 28 [.slice none 0 0]
    rw [World.size_alloc, World.size_alloc, World.size_alloc, hbx] at h
    rw [← hW1]; exact h⟩
  have HBX := Aside.mk hbx
  have HC := Aside.mk hc
  have HUL := Aside.mk hul
  obtain ⟨ob, hob⟩ : ∃ ob, bx + 1 + 1 + 1 = ob := ⟨_, rfl⟩
  rw [hob] at C4
  have HOB := Aside.mk hob
  clear hc hn h hd hu hul
  have d4 : W1.cell? ⟨ob, 0, none⟩ = some (.slice none 0 0) := by rw [C4.it.cell]; rfl
  have p4 := C4.it.frozen 0
  go_enter Tryd.func26, Tryd.ntmps26
  go_upto_region 3 with fail
  clear hW1 hbx hob d4 p4
  have hK2 : Keeps (fun x => x = ob) W1 (W1.setCell ⟨ob, 0, none⟩ (.slice none 0 0)) := (Keeps.refl _ _).setCell _ _ (fun _ => rfl)
  have WS2 : Aside (Ws W1 W1.heap.size ob (W1.setCell ⟨ob, 0, none⟩ (.slice none 0 0)) (.slice none 0 0) []) := ⟨⟨C4.it.setCell 0 (.slice none 0 0), World.ownsRow_nil _ _ _ _, hK2, hK2.size⟩⟩
  clear hK2
  generalize W1.setCell ⟨ob, 0, none⟩ (.slice none 0 0) = W2 at WS2 ⊢
  obtain ⟨Bs, hBs⟩ : ∃ Bs, W1.heap.size = Bs := ⟨_, rfl⟩
  rw [hBs] at WS2
  have HBs : Aside (W1.heap.size ≤ Bs) := ⟨by omega⟩
  have HBs2 : Aside (w.heap.size ≤ Bs) := ⟨by have := K1.it.size; omega⟩
  clear hBs
  go_wp2_with fail
  go_loopw [6, 7] (fun dv iv wr => ∃ (j : Nat) (done : Bool) (vo : Value) (V : Ds), dv = .bool done ∧ iv = .int .i64 j ∧ j ≤ n ∧ Wi U ⟨dk, .slice uq ul uc, dr⟩ j done V ∧ Aside (Ws W1 Bs ob wr vo V)) (fun _ iv _ => n - natOfT iv)
  case atStart => exact ⟨0, false, _, [], rfl, rfl, Nat.zero_le _, .inl ⟨rfl, rfl, fun x hx => by simp at hx⟩, WS2⟩
  case round =>
    clear WS2
    obtain ⟨j, done, vo, V, rfl, rfl, hj, hW, WS⟩ := hrel
    have HW := Aside.mk hW
    have hVl : Aside (V.length + 1 + 1 ≤ 2147483648) := ⟨by have := hW.len; have := HN.it; omega⟩
    clear hW
    obtain ⟨oq, oc, hvo⟩ := owns_sl WS.it.r
    subst hvo
    obtain ⟨lv, hlv⟩ : ∃ lv, V.length = lv := ⟨_, rfl⟩
    rw [hlv] at WS
    clear hlv
    rcases Nat.eq_or_lt_of_le hj with rfl | hlt
    · have e0 : U.take j = U := List.take_of_length_le (by rw [HN.it]; exact Nat.le_refl _)
      have hbo : Aside (bx ≠ ob ∧ bx + 1 ≠ ob ∧ bx + 1 + 1 ≠ ob) := ⟨by have := HOB.it; omega⟩
      have FE : Aside (∀ W v2 V2, Ws W1 Bs ob W v2 V2 → Cells W (bx + 1 + 1) 28 [.slice none 0 0] ∧ W.cell? ⟨ob, 0, none⟩ = some v2) := ⟨fun W v2 V2 hs => ⟨C3.it.later hs.k (fun e => hbo.it.2.2 e), by rw [hs.c.cell]; rfl⟩⟩
      have FIN : Aside (∀ W q l c, Ws W1 Bs ob W (.slice q l c) (dset U ⟨dk, .slice uq ul uc, dr⟩) → RdD (give own w.heap.size 9) (W.setCell ⟨bx + 1 + 1, 0, none⟩ (.slice q l c)) (.slice q l c) (dset U ⟨dk, .slice uq ul uc, dr⟩) ∧ Keeps Nowhere w (W.setCell ⟨bx + 1 + 1, 0, none⟩ (.slice q l c))) := ⟨fun W q l c hs => by
        have K2 : Keeps (fun x => x = bx + 1 + 1) W (W.setCell ⟨bx + 1 + 1, 0, none⟩ (.slice q l c)) := (Keeps.refl _ _).setCell _ _ (fun _ => rfl)
        have KN : Keeps Nowhere w (W.setCell ⟨bx + 1 + 1, 0, none⟩ (.slice q l c)) := (K1.it.next hs.k (fun x hx hlt => by have := HOB.it; have := HBX.it; omega)).next K2 (fun x hx hlt => by have := HBX.it; omega)
        refine ⟨owns_rdD (own := own) (base := Bs) (owns_later hs.r K2 (fun x hx e => ?_)) rfl HBs2.it (fun x hx => ?_), KN⟩
        · have h1 := owns_base hs.r x hx
          have h2 := C3.it.lt
          have h3 := HBs.it
          omega
        · have s9 : Sn (fun _ => False) own w (give own w.heap.size 9) (W.setCell ⟨bx + 1 + 1, 0, none⟩ (.slice q l c)) := Sn.quiet KN 9
          rcases dset_mem hx with rfl | hx
          · have := HD.it.sn s9 (fun x => x)
            rw [HUL.it] at this
            exact this
          · exact (H.it.b x hx).sn s9 (fun x => x)⟩
      cases done with
      | true =>
        have hV : V = dset U ⟨dk, .slice uq ul uc, dr⟩ := by
          rcases HW.it with ⟨h, _⟩ | ⟨_, h, _⟩
          · cases h
          · rw [e0] at h; exact h
        rw [hV] at WS
        obtain ⟨c5, o0⟩ := FE.it wr _ _ WS.it
        have C5 := Aside.mk c5
        have x0 : wr.cell? ⟨bx + 1 + 1, 0, none⟩ = some (.slice none 0 0) := by rw [c5.cell]; rfl
        have x1 := c5.frozen 0
        have h0 : wr.cell? ⟨bx, 0, none⟩ = some (.slice a j c) := by rw [(C1.it.later WS.it.k (fun e => hbo.it.1 e)).cell]; rfl
        have FF := Aside.mk (FIN.it wr _ _ _ WS.it)
        clear c5 HW e0 hV
        go_wp2_with fail
        have y0 := (C5.it.setCell 0 (.slice oq lv oc)).cell 0
        refine bodyPost_ret (v := .agg #[.slice oq lv oc]) (by simp [results, Tryd.f26, go_sem, y0]) rfl ?_
        exact ⟨_, _, _, rfl, ⟨FF.it.1⟩, ⟨FF.it.2⟩⟩
      | false =>
        have hV : V ++ [⟨dk, .slice uq ul uc, dr⟩] = dset U ⟨dk, .slice uq ul uc, dr⟩ := by
          rcases HW.it with ⟨_, h, h2⟩ | ⟨h, _⟩
          · rw [e0] at h h2
            subst h
            have := dset_low (e := ⟨dk, .slice uq ul uc, dr⟩) h2 []
            rw [List.append_nil] at this
            rw [this]
            rfl
          · cases h
        have HV := Aside.mk hV
        obtain ⟨c5, o0⟩ := FE.it wr _ _ WS.it
        obtain ⟨h0, r0⟩ : wr.cell? ⟨bx, 0, none⟩ = some (.slice a j c) ∧ True := ⟨by rw [(C1.it.later WS.it.k (fun e => hbo.it.1 e)).cell]; rfl, trivial⟩
        have E2 := C2.it.later WS.it.k (fun e => hbo.it.2.1 e)
        have r0 : wr.cell? ⟨bx + 1, 0, none⟩ = some (.int .i64 dk) := by rw [E2.cell]; rfl
        have r1 : wr.cell? ⟨bx + 1, 1, none⟩ = some (.slice uq ul uc) := by rw [E2.cell]; rfl
        have r2 : wr.cell? ⟨bx + 1, 2, none⟩ = some (.int .i64 ((dr.rd : Nat) : Int)) := by rw [E2.cell]; rfl
        have r3 : wr.cell? ⟨bx + 1, 3, none⟩ = some (.bool dr.cl) := by rw [E2.cell]; rfl
        have r4 : wr.cell? ⟨bx + 1, 4, none⟩ = some (.bool dr.en) := by rw [E2.cell]; rfl
        obtain ⟨q7, c7, w7, run7, p1, p2, WS7⟩ := Ws.app (d := ⟨dk, .slice uq ul uc, dr⟩) WS HBs.it ⟨_, _, _, rfl⟩ (by have := hVl.it; omega) (.inl rfl)
        clear c5 HW e0 hV E2
        go_upto_region 13 with fail
        clear h0 r0 r1 r2 r3 r4 o0 p1 p2 run7
        generalize w7.setCell ⟨ob, 0, none⟩ (.slice q7 (V.length + 1) c7) = w8 at WS7 ⊢
        obtain ⟨c5, o0⟩ := FE.it w8 _ _ WS7.it
        have C5 := Aside.mk c5
        have x0 : w8.cell? ⟨bx + 1 + 1, 0, none⟩ = some (.slice none 0 0) := by rw [c5.cell]; rfl
        have x1 := c5.frozen 0
        rw [HV.it] at WS7
        have FF := Aside.mk (FIN.it w8 _ _ _ WS7.it)
        clear c5
        go_wp2_with fail
        have y0 := (C5.it.setCell 0 (.slice q7 (V.length + 1) c7)).cell 0
        refine bodyPost_ret (v := .agg #[.slice q7 (V.length + 1) c7]) (by simp [results, Tryd.f26, go_sem, y0]) rfl ?_
        exact ⟨_, _, _, rfl, ⟨FF.it.1⟩, ⟨FF.it.2⟩⟩
    · obtain ⟨y, hy⟩ : ∃ y, U[j]? = some y := ⟨_, List.getElem?_eq_getElem (by rw [HN.it]; exact hlt)⟩
      obtain ⟨g, rfl, _, hrow⟩ := HC.it j y hy
      have HROW := Aside.mk hrow
      have HY := Aside.mk hy
      obtain ⟨yq, yc, hyu⟩ := (H.it.b y (List.mem_of_getElem? hy)).sl
      obtain ⟨yk, yu, yr⟩ := y
      simp only at hyu
      subst hyu
      obtain ⟨yl, hyl⟩ : ∃ yl, yr.wr.length = yl := ⟨_, rfl⟩
      rw [hyl] at HROW HY
      have hgl : g < w.heap.size := World.block_lt_of_cell? w _ hrow.1
      have hbo : Aside (bx ≠ ob ∧ bx + 1 ≠ ob ∧ bx + 1 + 1 ≠ ob ∧ g ≠ ob) := ⟨by have := HOB.it; have := HBX.it; omega⟩
      have FC : Aside (∀ W v2 V2, Ws W1 Bs ob W v2 V2 → W.cell? ⟨bx, 0, none⟩ = some (.slice (some ⟨g, 0, none⟩) n c) ∧ (W.cell? ⟨bx + 1, 0, none⟩ = some (.int .i64 dk) ∧ W.cell? ⟨bx + 1, 1, none⟩ = some (.slice uq ul uc) ∧ W.cell? ⟨bx + 1, 2, none⟩ = some (.int .i64 ((dr.rd : Nat) : Int)) ∧ W.cell? ⟨bx + 1, 3, none⟩ = some (.bool dr.cl) ∧ W.cell? ⟨bx + 1, 4, none⟩ = some (.bool dr.en)) ∧ RowAt5 W g (j * 5) ⟨yk, .slice yq yl yc, yr⟩ ∧ W.cell? ⟨ob, 0, none⟩ = some v2) := ⟨fun W v2 V2 hs => by
        have E1 := C1.it.later hs.k (fun e => hbo.it.1 e)
        have E2 := C2.it.later hs.k (fun e => hbo.it.2.1 e)
        refine ⟨by rw [E1.cell]; rfl, ⟨by rw [E2.cell]; rfl, by rw [E2.cell]; rfl, by rw [E2.cell]; rfl, by rw [E2.cell]; rfl, by rw [E2.cell]; rfl⟩, ?_, by rw [hs.c.cell]; rfl⟩
        exact (HROW.it.later K1.it (fun x => x)).later hs.k (fun e => hbo.it.2.2.2 e)⟩
      clear hy hrow hyl hgl
      obtain ⟨h0, ⟨r0, r1, r2, r3, r4⟩, ⟨z0, z1, z2, z3, z4⟩, o0⟩ := FC.it wr _ _ WS.it
      simp only at z0 z1 z2 z3 z4
      go_upto_region 6 with fail
      go_cut [6, 28] (fun dv t wx => dv = .bool done ∧ t = .bool (!done && decide (dk ≤ yk)) ∧ Aside (Keeps Nowhere wr wx))
      case first =>
        have t2 : (j : Int) < (n : Int) := by omega
        cases done with
        | true =>
          go_quiet (fail)
          go_wp2_with fail
          go_meet
          exact ⟨rfl, rfl, ⟨(Keeps.refl _ _).drewN _⟩⟩
        | false =>
          go_quiet (fail)
          go_wp2_with fail
          go_meet
          exact ⟨rfl, by simp, ⟨(Keeps.refl _ _).drewN _⟩⟩
      case rest =>
        obtain ⟨rfl, rfl, KC⟩ := hcut
        have WC := Aside.mk (WS.it.quiet KC.it)
        clear h0 r0 r1 r2 r3 r4 z0 z1 z2 z3 z4 o0 WS
        have t2 : (j : Int) < (n : Int) := by omega
        cases done with
        | true =>
          have e0 : (!true && decide (dk ≤ yk)) = false := rfl
          rw [e0]
          have WS2 := WC
          have HW2 : Aside (Wm U ⟨dk, .slice uq ul uc, dr⟩ j ⟨yk, .slice yq yl yc, yr⟩ true V ∧ V.length + 1 ≤ 2147483648) := ⟨HW.it.done HU.it HY.it, by have := hVl.it; omega⟩
          obtain ⟨h0, ⟨r0, r1, r2, r3, r4⟩, ⟨z0, z1, z2, z3, z4⟩, o0⟩ := FC.it wc _ _ WS2.it
          simp only at z0 z1 z2 z3 z4
          have NX := Aside.mk (HW2.it.1.next HY.it)
          go_upto_region 9 with fail
          go_cut [43] (fun t wx => t = .bool (yk != dk) ∧ Aside (Keeps Nowhere wc wx))
          case first =>
            go_quiet (fail)
            go_wp2_with fail
            go_meet
            exact ⟨rfl, ⟨(Keeps.refl _ _).drewN _⟩⟩
          case rest =>
            obtain ⟨rfl, KE⟩ := hcut
            have WE := Aside.mk (WS2.it.quiet KE.it)
            clear h0 r0 r1 r2 r3 r4 z0 z1 z2 z3 z4 o0 WS2
            by_cases heq : yk = dk
            · have e0 : (yk != dk) = false := by simp [heq]
              rw [e0]
              simp only [heq, if_true] at NX
              go_wp2_with fail
              go_roundw
              case rel => exact ⟨j + 1, true, _, V, rfl, by go_num, by omega, NX.it, WE⟩
              case measure => simp [natOfT]; omega
            · have e0 : (yk != dk) = true := by simp [heq]
              rw [e0]
              simp only [heq, if_false] at NX
              obtain ⟨h0, _, ⟨z0, z1, z2, z3, z4⟩, o0⟩ := FC.it _ _ _ WE.it
              simp only at z0 z1 z2 z3 z4
              obtain ⟨h0', _, ⟨z0', z1', z2', z3', z4'⟩, o0'⟩ := FC.it _ _ _ (WE.it.quiet ((Keeps.refl _ _).alloc (.cells #[.int .i64 yk, .slice yq yl yc, .int .i64 ((yr.rd : Nat) : Int), .bool yr.cl, .bool yr.en] 45)))
              simp only at z0' z1' z2' z3' z4'
              obtain ⟨q9, c9, w9, run9, p1, p2, WS9⟩ := Ws.app (d := ⟨yk, .slice yq yl yc, yr⟩) WE HBs.it ⟨_, _, _, rfl⟩ HW2.it.2 (.inr rfl)
              have run9' : ∀ ty, (Builtin.append_ #[26, 26] ty #[.slice oq lv oc, .slice (some ⟨wc.heap.size, 0, none⟩) 1 1]).run Tryd.prog (wc.alloc (.cells #[.int .i64 yk, .slice yq yl yc, .int .i64 ((yr.rd : Nat) : Int), .bool yr.cl, .bool yr.en] 45)).drew = .ok (.slice q9 (V.length + 1) c9) w9 := run9
              clear run9
              go_upto_region 10 with fail
              go_region
              go_wp2_with fail
              go_roundw
              case rel => exact ⟨j + 1, true, _, _, rfl, by go_num, by omega, NX.it, WS9⟩
              case measure => simp [natOfT]; omega
        | false =>
          by_cases hge : dk ≤ yk
          · have e0 : (!false && decide (dk ≤ yk)) = true := by simp [hge]
            obtain ⟨h0, ⟨r0, r1, r2, r3, r4⟩, _, o0⟩ := FC.it wc _ _ WC.it
            obtain ⟨q7, c7, w7, run7, p1, p2, WS7⟩ := Ws.app (d := ⟨dk, .slice uq ul uc, dr⟩) WC HBs.it ⟨_, _, _, rfl⟩ (by have := hVl.it; omega) (.inl rfl)
            have HW2 : Aside (Wm U ⟨dk, .slice uq ul uc, dr⟩ j ⟨yk, .slice yq yl yc, yr⟩ true (V ++ [⟨dk, .slice uq ul uc, dr⟩]) ∧ (V ++ [(⟨dk, .slice uq ul uc, dr⟩ : Dr)]).length + 1 ≤ 2147483648) := ⟨HW.it.put HY.it hge, by have := hVl.it; simp; omega⟩
            rw [e0]
            go_upto_region 9 with fail
            clear h0 r0 r1 r2 r3 r4 o0 run7 p1 p2
            have WS2 := WS7
            generalize w7.setCell ⟨ob, 0, none⟩ (.slice q7 (V.length + 1) c7) = wq at WS2 ⊢
            clear WS7
            generalize V ++ [(⟨dk, .slice uq ul uc, dr⟩ : Dr)] = V2 at HW2 WS2
            obtain ⟨h0, ⟨r0, r1, r2, r3, r4⟩, ⟨z0, z1, z2, z3, z4⟩, o0⟩ := FC.it wq _ _ WS2.it
            simp only at z0 z1 z2 z3 z4
            have NX := Aside.mk (HW2.it.1.next HY.it)
            go_upto_region 9 with fail
            go_cut [43] (fun t wx => t = .bool (yk != dk) ∧ Aside (Keeps Nowhere wq wx))
            case first =>
              go_quiet (fail)
              go_wp2_with fail
              go_meet
              exact ⟨rfl, ⟨(Keeps.refl _ _).drewN _⟩⟩
            case rest =>
              obtain ⟨rfl, KE⟩ := hcut
              have WE := Aside.mk (WS2.it.quiet KE.it)
              clear h0 r0 r1 r2 r3 r4 z0 z1 z2 z3 z4 o0 WS2
              by_cases heq : yk = dk
              · have e0 : (yk != dk) = false := by simp [heq]
                rw [e0]
                simp only [heq, if_true] at NX
                go_wp2_with fail
                go_roundw
                case rel => exact ⟨j + 1, true, _, V2, rfl, by go_num, by omega, NX.it, WE⟩
                case measure => simp [natOfT]; omega
              · have e0 : (yk != dk) = true := by simp [heq]
                rw [e0]
                simp only [heq, if_false] at NX
                obtain ⟨h0, _, ⟨z0, z1, z2, z3, z4⟩, o0⟩ := FC.it _ _ _ WE.it
                simp only at z0 z1 z2 z3 z4
                obtain ⟨h0', _, ⟨z0', z1', z2', z3', z4'⟩, o0'⟩ := FC.it _ _ _ (WE.it.quiet ((Keeps.refl _ _).alloc (.cells #[.int .i64 yk, .slice yq yl yc, .int .i64 ((yr.rd : Nat) : Int), .bool yr.cl, .bool yr.en] 45)))
                simp only at z0' z1' z2' z3' z4'
                obtain ⟨q9, c9, w9, run9, p1, p2, WS9⟩ := Ws.app (d := ⟨yk, .slice yq yl yc, yr⟩) WE HBs.it ⟨_, _, _, rfl⟩ HW2.it.2 (.inr rfl)
                have run9' : ∀ ty, (Builtin.append_ #[26, 26] ty #[.slice q7 (V.length + 1) c7, .slice (some ⟨wc.heap.size, 0, none⟩) 1 1]).run Tryd.prog (wc.alloc (.cells #[.int .i64 yk, .slice yq yl yc, .int .i64 ((yr.rd : Nat) : Int), .bool yr.cl, .bool yr.en] 45)).drew = .ok (.slice q9 (V2.length + 1) c9) w9 := run9
                clear run9
                go_upto_region 10 with fail
                go_region
                go_wp2_with fail
                go_roundw
                case rel => exact ⟨j + 1, true, _, _, rfl, by go_num, by omega, NX.it, WS9⟩
                case measure => simp [natOfT]; omega
          · have e0 : (!false && decide (dk ≤ yk)) = false := by simp [hge]
            have WS2 := WC
            have HW2 : Aside (Wm U ⟨dk, .slice uq ul uc, dr⟩ j ⟨yk, .slice yq yl yc, yr⟩ false V ∧ V.length + 1 ≤ 2147483648) := ⟨HW.it.low (by simp only; omega), by have := hVl.it; omega⟩
            rw [e0]
            obtain ⟨h0, ⟨r0, r1, r2, r3, r4⟩, ⟨z0, z1, z2, z3, z4⟩, o0⟩ := FC.it wc _ _ WS2.it
            simp only at z0 z1 z2 z3 z4
            have NX := Aside.mk (HW2.it.1.next HY.it)
            go_upto_region 9 with fail
            go_cut [43] (fun t wx => t = .bool (yk != dk) ∧ Aside (Keeps Nowhere wc wx))
            case first =>
              go_quiet (fail)
              go_wp2_with fail
              go_meet
              exact ⟨rfl, ⟨(Keeps.refl _ _).drewN _⟩⟩
            case rest =>
              obtain ⟨rfl, KE⟩ := hcut
              have WE := Aside.mk (WS2.it.quiet KE.it)
              clear h0 r0 r1 r2 r3 r4 z0 z1 z2 z3 z4 o0 WS2
              by_cases heq : yk = dk
              · have e0 : (yk != dk) = false := by simp [heq]
                rw [e0]
                simp only [heq, if_true] at NX
                go_wp2_with fail
                go_roundw
                case rel => exact ⟨j + 1, false, _, V, rfl, by go_num, by omega, NX.it, WE⟩
                case measure => simp [natOfT]; omega
              · have e0 : (yk != dk) = true := by simp [heq]
                rw [e0]
                simp only [heq, if_false] at NX
                obtain ⟨h0, _, ⟨z0, z1, z2, z3, z4⟩, o0⟩ := FC.it _ _ _ WE.it
                simp only at z0 z1 z2 z3 z4
                obtain ⟨h0', _, ⟨z0', z1', z2', z3', z4'⟩, o0'⟩ := FC.it _ _ _ (WE.it.quiet ((Keeps.refl _ _).alloc (.cells #[.int .i64 yk, .slice yq yl yc, .int .i64 ((yr.rd : Nat) : Int), .bool yr.cl, .bool yr.en] 45)))
                simp only at z0' z1' z2' z3' z4'
                obtain ⟨q9, c9, w9, run9, p1, p2, WS9⟩ := Ws.app (d := ⟨yk, .slice yq yl yc, yr⟩) WE HBs.it ⟨_, _, _, rfl⟩ HW2.it.2 (.inr rfl)
                have run9' : ∀ ty, (Builtin.append_ #[26, 26] ty #[.slice oq lv oc, .slice (some ⟨wc.heap.size, 0, none⟩) 1 1]).run Tryd.prog (wc.alloc (.cells #[.int .i64 yk, .slice yq yl yc, .int .i64 ((yr.rd : Nat) : Int), .bool yr.cl, .bool yr.en] 45)).drew = .ok (.slice q9 (V.length + 1) c9) w9 := run9
                clear run9
                go_upto_region 10 with fail
                go_region
                go_wp2_with fail
                go_roundw
                case rel => exact ⟨j + 1, false, _, _, rfl, by go_num, by omega, NX.it, WS9⟩
                case measure => simp [natOfT]; omega
end Go.Proofs.YtambdgcogldbgaaDoor

/-
  the document's history (culvertref24): Rest, Wrote, Closed, Ended
-/
namespace Go.Proofs.YtambdgcogldbgaaDoor
open Go.RowKit Go.Maps

variable {w w' W w2 : World} {own own' : Nat → Nat} {v : Value} {U : Ds} {I : Nat → Prop} {k : Int} {d : Dr} {T : Nat} {ns : List Int} {sl : Value}
/-- the boxes of a call: the history, the answer, the row -/
structure Dz (w : World) (bx rb : Nat) (v : Value) (cs : List Value) (W : World) : Prop where
  h : Cells W bx 28 [v]
  a : Cells W (bx + 1) 28 [.slice none 0 0]
  r : Cells W rb 45 cs
  k : Keeps Nowhere w W
variable {bx rb : Nat} {cs : List Value}
theorem Dz.quiet (h : Dz w bx rb v cs W) (hk : Keeps Nowhere W w') : Dz w bx rb v cs w' := ⟨h.h.later hk (fun x => x), h.a.later hk (fun x => x), h.r.later hk (fun x => x), h.k.trans hk⟩
theorem Dz.rne (h : Dz w bx rb v cs W) : bx ≠ rb ∧ bx + 1 ≠ rb := by
  have key : ∀ {b : Nat} {xs : List Value}, Cells W b 28 xs → b ≠ rb := fun {b xs} hc e => by
    subst e
    have h2 := h.r
    unfold Cells at hc h2
    rw [hc] at h2
    injection h2 with h2
    simp only [Obj.cells.injEq] at h2
    exact absurd h2.2.1 (by decide)
  exact ⟨key h.h, key h.a⟩
theorem Dz.put (h : Dz w bx rb v cs W) (hb : w.heap.size ≤ rb) (i : Nat) (x : Value) : Dz w bx rb v (cs.set i x) (W.setCell ⟨rb, i, none⟩ x) :=
  ⟨h.h.setOther ⟨rb, i, none⟩ x (fun e => h.rne.1 e), h.a.setOther ⟨rb, i, none⟩ x (fun e => h.rne.2 e), h.r.setCell i x, h.k.next (S' := fun k => k = rb) ((Keeps.refl _ _).setCell _ _ (fun _ => rfl)) (fun k e hlt => by omega)⟩
theorem Dz.start (w : World) (v : Value) {w2 : World} (K2 : Keeps Nowhere ((w.alloc (.cells #[v] 28)).alloc (.cells #[.slice none 0 0] 28)) w2) (cs : List Value) : Dz w w.heap.size w2.heap.size v cs (w2.alloc (.cells cs.toArray 45)) := by
  have KA : Keeps Nowhere w2 (w2.alloc (.cells cs.toArray 45)) := (Keeps.refl _ _).alloc _
  refine ⟨?_, ?_, Cells.new w2 _ cs, ((((Keeps.refl _ _).alloc _).alloc _).trans K2).trans KA⟩
  · exact ((Cells.new w _ [v]).later (S := Nowhere) (((Keeps.refl _ _).alloc _).trans K2) (fun x => x)).later KA (fun x => x)
  · have h := Cells.new (w.alloc (.cells #[v] 28)) 28 [.slice none 0 0]
    rw [World.size_alloc] at h
    exact (h.later K2 (fun x => x)).later KA (fun x => x)
/-- the answer is written -/
theorem Dz.fin (h : Dz w bx rb v cs W) (hb : w.heap.size ≤ bx) (x : Value) : Keeps Nowhere w (W.setCell ⟨bx + 1, 0, none⟩ x) ∧ (W.setCell ⟨bx + 1, 0, none⟩ x).cell? ⟨bx + 1, 0, none⟩ = some x :=
  ⟨h.k.next (S' := fun k => k = bx + 1) ((Keeps.refl _ _).setCell _ _ (fun _ => rfl)) (fun k e hlt => by omega), by rw [(h.a.setCell 0 x).cell]; rfl⟩
theorem Dz.cells (h : Dz w bx rb v cs W) : W.cell? ⟨bx, 0, none⟩ = some v ∧ W.cell? ⟨bx + 1, 0, none⟩ = some (.slice none 0 0) ∧ W.frozen? ⟨bx + 1, 0, none⟩ = false ∧ (∀ i, W.cell? ⟨rb, i, none⟩ = cs[i]?) ∧ ∀ i, W.frozen? ⟨rb, i, none⟩ = false := ⟨by rw [h.h.cell]; rfl, by rw [h.a.cell]; rfl, h.a.frozen 0, fun i => h.r.cell i, fun i => h.r.frozen i⟩
set_option maxHeartbeats 1000000 in
theorem dRest (h : RdD own w v U) (hl : U.length ≤ 2147483648) (ok : TOk T (mdl U)) (hT : T ≤ 70368744177664) (z : Int) :
    Calls Tryd.prog 7 #[.agg #[v], .int .i64 z] w fun e w' => ∃ q c, e = .returned (.slice q (got (mdl U) z).rest.length c) ∧ Aside (OwnB w.heap.size w' (.slice q (got (mdl U) z).rest.length c) (got (mdl U) z).rest) ∧ Aside (Keeps Nowhere w w') := by
  have gk := ok.got z
  rw [← mdl_got] at gk ⊢
  obtain ⟨d, hd⟩ : ∃ d, dgot U z = d := ⟨_, rfl⟩
  have hu := h.got z
  rw [hd] at gk hu ⊢
  obtain ⟨W1, hW1⟩ : ∃ W1, w.alloc (.cells #[v] 28) = W1 := ⟨_, rfl⟩
  have K1 : Aside (Keeps Nowhere w W1) := ⟨by rw [← hW1]; exact (Keeps.refl _ _).alloc _⟩
  obtain ⟨bx, hbx⟩ : ∃ bx, w.heap.size = bx := ⟨_, rfl⟩
  have C1 : Aside (Cells W1 bx 28 [v]) := ⟨by rw [← hW1, ← hbx]; exact Cells.new w _ _⟩
  have OF := Aside.mk (dOf (h.quiet K1.it) hl z)
  rw [hd] at OF
  obtain ⟨dk, du, dr⟩ := d
  obtain ⟨uq, uc, hdu⟩ := hu.sl
  simp only at hdu gk hu
  subst hdu
  obtain ⟨a, c, rfl, _⟩ := h.s
  obtain ⟨ul, hul⟩ : ∃ ul, dr.wr.length = ul := ⟨_, rfl⟩
  obtain ⟨rd, hrd⟩ : ∃ rd, dr.rd = rd := ⟨_, rfl⟩
  obtain ⟨m, hm⟩ : ∃ m, dr.rest.length = m := ⟨_, rfl⟩
  have hmm : m = ul - rd := by rw [← hm, Rc.rest_len, hul, hrd]
  simp only [rowV, hul, hrd] at OF
  have HU := Aside.mk hu
  rw [hul] at HU
  have huc : ul ≤ uc := HU.it.1.len.2
  have hr1 := gk.rd
  have hr2 := gk.len
  rw [hul] at hr1 hr2
  rw [hrd] at hr1
  have g1 : (rd : Int) ≤ (ul : Int) := by omega
  have g2 : (ul : Int) ≤ (uc : Int) := by omega
  have d1 : W1.cell? ⟨bx, 0, none⟩ = some (.slice a U.length c) := by rw [C1.it.cell]; rfl
  have HRM := Aside.mk (And.intro hul (And.intro hrd hm))
  have hTm : Aside (m ≤ 70368744177664) := ⟨by omega⟩
  show Calls _ _ _ _ _
  rw [show (⟨dk, Value.slice uq dr.wr.length uc, dr⟩ : Dr).r.rest = dr.rest from rfl, hm]
  clear h ok gk hu hd hul hrd hm
  go_enter Tryd.func7, Tryd.ntmps7
  go_upto_region 1 with fail
  clear hW1 hbx
  go_upto_region 2 with (first | (go_at_call 21; refine OF.it.mono ?_; rintro e w2 ⟨rfl, K2⟩) | fail)
  have DZ : Aside (Cells (w2.alloc (.cells #[.int .i64 dk, .slice uq ul uc, .int .i64 rd, .bool dr.cl, .bool dr.en] 45)) w2.heap.size 45 [.int .i64 dk, .slice uq ul uc, .int .i64 rd, .bool dr.cl, .bool dr.en]) := ⟨Cells.new w2 _ _⟩
  have K3 : Aside (Keeps Nowhere w (w2.alloc (.cells #[.int .i64 dk, .slice uq ul uc, .int .i64 rd, .bool dr.cl, .bool dr.en] 45))) := ⟨(K1.it.trans K2.it).alloc _⟩
  obtain ⟨rb, hrb⟩ : ∃ rb, w2.heap.size = rb := ⟨_, rfl⟩
  rw [hrb] at DZ ⊢
  generalize w2.alloc (.cells #[.int .i64 dk, .slice uq ul uc, .int .i64 rd, .bool dr.cl, .bool dr.en] 45) = w3 at DZ K3 ⊢
  clear hrb d1
  have KA : Keeps Nowhere w3 (w3.alloc (.cells #[] 5)) := (Keeps.refl _ _).alloc _
  have DA := DZ.it.later KA (fun x => x)
  have e1 : (w3.alloc (.cells #[] 5)).cell? ⟨rb, 1, none⟩ = some (.slice uq ul uc) := by rw [DA.cell]; rfl
  have e2 : (w3.alloc (.cells #[] 5)).cell? ⟨rb, 2, none⟩ = some (.int .i64 rd) := by rw [DA.cell]; rfl
  have RE := RdS.drop (S := Nowhere) (n := rd) (HU.it.1.later (K3.it.trans KA).bel) (by rw [HRM.it.1]; exact hr1)
  rw [show dr.wr.drop rd = dr.rest by unfold Rc.rest; rw [HRM.it.2.1]] at RE
  have OM := Aside.mk (own_made w3)
  have bd : Aside (([] : List Int).length + dr.rest.length ≤ 140737488355328) := ⟨by rw [HRM.it.2.2]; simp; have := hTm.it; omega⟩
  have hsz : Aside (w3.heap.size ≤ (w3.alloc (.cells #[] 5)).heap.size) := ⟨KA.size⟩
  have KAA := Aside.mk KA
  by_cases hcr : uc = rd
  · have hur : ul = rd := by omega
    subst hcr
    subst hur
    have hm0 : m = 0 := by omega
    subst hm0
    simp only [if_true, Nat.sub_self] at RE
    have HRE := Aside.mk RE
    clear RE DA KA hmm g1 g2 hr1 huc
    go_wp2_with (first | (at_builtin; refine wpList_appendB rfl _ _ rfl w3.heap.size _ _ [] dr.rest OM.it HRE.it bd.it hsz.it rfl rfl ?_; intro v4 w4 O4 K4) | go_in)
    rw [List.nil_append] at O4
    obtain ⟨q4, c4, hv4⟩ := O4.it.val
    rw [HRM.it.2.2] at hv4
    subst hv4
    go_wp2_with fail
    go_ret
    exact ⟨q4, c4, rfl, ⟨O4.it.mono K3.it.size⟩, ⟨K3.it.trans (Keeps.ofBelow (KAA.it.bel.trans K4.it))⟩⟩
  · simp only [hcr, if_false] at RE
    rw [← hmm] at RE
    have HRE := Aside.mk RE
    have em : ul - rd = m := hmm.symm
    clear RE DA KA hmm
    go_wp2_with (first | (at_builtin; refine wpList_appendB rfl _ _ rfl w3.heap.size _ _ [] dr.rest OM.it HRE.it bd.it hsz.it rfl rfl ?_; intro v4 w4 O4 K4) | go_in)
    rw [List.nil_append] at O4
    obtain ⟨q4, c4, hv4⟩ := O4.it.val
    rw [HRM.it.2.2] at hv4
    subst hv4
    go_wp2_with fail
    go_ret
    exact ⟨q4, c4, rfl, ⟨O4.it.mono K3.it.size⟩, ⟨K3.it.trans (Keeps.ofBelow (KAA.it.bel.trans K4.it))⟩⟩
end Go.Proofs.YtambdgcogldbgaaDoor

/-
  the document's history (culvertref24): Wrote, Closed, Ended
-/
namespace Go.Proofs.YtambdgcogldbgaaDoor
open Go.RowKit Go.Maps

variable {w w' W w2 : World} {own own' : Nat → Nat} {v : Value} {U : Ds} {I : Nat → Prop} {k : Int} {d : Dr} {T : Nat} {ns : List Int} {sl : Value}
theorem mdl_up (ok : TOk T (mdl U)) : (tk (mdl U)).Pairwise (· < ·) := ok.up
/-- what a call of the document's leaves -/
def DEnds (own : Nat → Nat) (w : World) (L' : Hs) (code : Int) (e : Ending) (w' : World) : Prop := ∃ q l c U', e = .returned (.tuple #[.agg #[.slice q l c], .int .i64 code]) ∧ Aside (RdD (give own w.heap.size 9) w' (.slice q l c) U' ∧ mdl U' = L') ∧ Aside (Keeps Nowhere w w')
theorem RdO.lab {j : Nat} {own2 : Nat → Nat} {u : Value} (h : RdO own j w u ns) (he : ∀ g, own g = j → own2 g = j) : RdO own2 j w u ns := ⟨h.1, fun g hg => ⟨(h.2 g hg).1, he g (h.2 g hg).2⟩⟩
theorem RdD.lab {own2 : Nat → Nat} (h : RdD own w v U) (he : ∀ g, own g = 9 → own2 g = 9) : RdD own2 w v U := by
  obtain ⟨a, c, e, hl, hc⟩ := h.s
  refine ⟨⟨a, c, e, hl, fun j x hj => ?_⟩, fun d hd => (h.b d hd).lab he⟩
  obtain ⟨g, ea, ho, hr⟩ := hc j x hj
  exact ⟨g, ea, he g ho, hr⟩
/-- the rows that 'with' made, behind the answer's writing -/
theorem with_fin {bx rb : Nat} {cs : List Value} {w4 w5 : World} {V : Ds} {v5 x : Value} {own1 : Nat → Nat} (h : RdD (give own1 w4.heap.size 9) w5 v5 V) (D4 : Dz w bx rb v cs w4) (h8 : own1 (bx + 1) = 8) (h9 : ∀ g, own1 g = 9 → give own w.heap.size 9 g = 9) : RdD (give own w.heap.size 9) (w5.setCell ⟨bx + 1, 0, none⟩ x) v5 V := by
  have hlt := D4.a.lt
  have e8 : give own1 w4.heap.size 9 (bx + 1) = 8 := by rw [give_old hlt]; exact h8
  have s8 : Sn (fun k => k = 8) (give own1 w4.heap.size 9) w5 (give own1 w4.heap.size 9) (w5.setCell ⟨bx + 1, 0, none⟩ x) := ⟨fun _ _ => rfl, (Keeps.refl _ _).setCell _ _ (fun _ => e8)⟩
  refine (h.sn s8 (by decide)).lab (fun g hg => ?_)
  by_cases h1 : g < w4.heap.size
  · rw [give_old h1] at hg
    exact h9 g hg
  · have := D4.k.size
    exact give_new (by omega)
theorem lab8 (own : Nat → Nat) (n : Nat) : ∀ g, give own n 8 g = 9 → give own n 9 g = 9 := fun g hg => by
  by_cases h : g < n
  · rw [give_old h] at hg ⊢; exact hg
  · rw [give_new (by omega)] at hg; cases hg
theorem lab89 (own : Nat → Nat) {n m : Nat} (hm : n ≤ m) : ∀ g, give (give own n 8) m 9 g = 9 → give own n 9 g = 9 := fun g hg => by
  by_cases h : g < m
  · rw [give_old h] at hg; exact lab8 own n g hg
  · exact give_new (by omega)
set_option maxRecDepth 20000 in
set_option maxHeartbeats 2000000 in
theorem dClosed (h : RdD own w v U) (hl : U.length ≤ 1073741824) (ok : TOk T (mdl U)) (z : Int) :
    Calls Tryd.prog 22 #[.agg #[v], .int .i64 z] w fun e w' => DEnds own w (closedL (mdl U) z) (wroteC (mdl U) z) e w' := by
  have H := Aside.mk h
  have UP := Aside.mk ok.up
  have GOK := ok.got z
  have hg := mdl_got U z
  have hk := dgot_k U z
  have hu := h.got z
  obtain ⟨d, hd⟩ : ∃ d, dgot U z = d := ⟨_, rfl⟩
  rw [hd] at hg hu hk
  rw [← hg] at GOK
  obtain ⟨W1, hW1⟩ : ∃ W1, (w.alloc (.cells #[v] 28)).alloc (.cells #[.slice none 0 0] 28) = W1 := ⟨_, rfl⟩
  have K1 : Aside (Keeps Nowhere w W1) := ⟨by rw [← hW1]; exact ((Keeps.refl _ _).alloc _).alloc _⟩
  have OF := Aside.mk (dOf (h.quiet K1.it) (by omega) z)
  rw [hd] at OF
  obtain ⟨dk, du, dr⟩ := d
  obtain ⟨uq, uc, hdu⟩ := hu.sl
  simp only at hdu hg hk hu GOK
  subst hdu
  subst hk
  obtain ⟨a, c, rfl, _⟩ := h.s
  obtain ⟨ul, hul⟩ : ∃ ul, dr.wr.length = ul := ⟨_, rfl⟩
  simp only [rowV, hul] at OF
  have HU := Aside.mk hu
  rw [hul] at HU
  have HG := Aside.mk hg
  have ST := Aside.mk (fun w2 (K2 : Keeps Nowhere W1 w2) => Dz.start w (.slice a U.length c) (w2 := w2) (by rw [hW1]; exact K2) [.int .i64 dk, .slice uq ul uc, .int .i64 ((dr.rd : Nat) : Int), .bool dr.cl, .bool dr.en])
  obtain ⟨bx, hbx⟩ : ∃ bx, w.heap.size = bx := ⟨_, rfl⟩
  rw [hbx] at ST
  have HBX := Aside.mk hbx
  have d1 : W1.cell? ⟨bx, 0, none⟩ = some (.slice a U.length c) := by
    rw [← hW1, ← hbx, ((Cells.new w _ [.slice a U.length c]).later (S := Nowhere) ((Keeps.refl _ _).alloc _) (fun x => x)).cell]; rfl
  have HUL := Aside.mk hul
  have HGO := Aside.mk GOK
  have HC1 : Aside (wroteC (mdl U) dk = if dr.cl then 24 else 0) := ⟨by unfold wroteC; rw [← hg]⟩
  have HC2 : Aside (closedL (mdl U) dk = if dr.cl then mdl U else tset (mdl U) dk { dr with cl := true }) := ⟨by unfold closedL; rw [← hg]⟩
  clear h ok hu hd hul hg GOK
  go_enter Tryd.func22, Tryd.ntmps22
  go_upto_region 1 with fail
  clear hW1 hbx
  go_upto_region 2 with (first | (go_at_call 21; refine OF.it.mono ?_; rintro e w2 ⟨rfl, K2⟩) | fail)
  have DZ := Aside.mk (ST.it w2 K2.it)
  have hrb : Aside (w.heap.size ≤ w2.heap.size) := ⟨(K1.it.trans K2.it).size⟩
  have e3 : w2.alloc (.cells #[.int .i64 dk, .slice uq ul uc, .int .i64 ((dr.rd : Nat) : Int), .bool dr.cl, .bool dr.en] 45) = w2.alloc (.cells [.int .i64 dk, .slice uq ul uc, .int .i64 ((dr.rd : Nat) : Int), .bool dr.cl, .bool dr.en].toArray 45) := rfl
  rw [e3]
  generalize w2.alloc (.cells [.int .i64 dk, .slice uq ul uc, .int .i64 ((dr.rd : Nat) : Int), .bool dr.cl, .bool dr.en].toArray 45) = w3 at DZ ⊢
  generalize w2.heap.size = rb at DZ hrb ⊢
  clear ST d1 OF e3
  obtain ⟨c0, c1, c2, c3, c4⟩ := DZ.it.cells
  have r1 : w3.cell? ⟨rb, 1, none⟩ = some (.slice uq ul uc) := c3 1
  have r2 : w3.cell? ⟨rb, 2, none⟩ = some (.int .i64 ((dr.rd : Nat) : Int)) := c3 2
  have r3 : w3.cell? ⟨rb, 3, none⟩ = some (.bool dr.cl) := c3 3
  have r4 : w3.cell? ⟨rb, 4, none⟩ = some (.bool dr.en) := c3 4
  have f3 := c4 3
  cases hcl : dr.cl with
  | true =>
    rw [hcl] at r3 HC1 HC2
    have FN := Aside.mk (DZ.it.fin (by have := HBX.it; omega) (.slice a U.length c))
    clear c3 c4 hcl
    go_wp2_with fail
    have y0 := FN.it.2
    refine bodyPost_ret (v := .tuple #[.agg #[.slice a U.length c], .int .i64 24]) (by simp [results, Tryd.f22, go_sem, y0]) rfl ?_
    exact ⟨_, _, _, U, by rw [HC1.it]; try rfl, ⟨H.it.step FN.it.1 9, by rw [HC2.it]; try rfl⟩, ⟨FN.it.1⟩⟩
  | false =>
    rw [hcl] at r3 HC1 HC2
    have D4 := Aside.mk (DZ.it.put hrb.it 3 (.bool true))
    rw [hcl] at D4
    clear hcl c3 c4
    go_upto_region 5 with fail
    clear c0 c1 c2 r1 r2 r3 r4 f3
    generalize w3.setCell ⟨rb, 3, none⟩ (.bool true) = w4 at D4 ⊢
    have WT := Aside.mk (dWith (own := give own w.heap.size 8) (d := ⟨dk, .slice uq ul uc, { dr with cl := true }⟩) (H.it.step D4.it.k 8) hl UP.it (HU.it.sn (I := fun _ => False) (Sn.quiet D4.it.k 8) (fun x => x)))
    simp only [rowV] at WT
    obtain ⟨c0, c1, c2, c3, c4⟩ := D4.it.cells
    have r0 : w4.cell? ⟨rb, 0, none⟩ = some (.int .i64 dk) := c3 0
    have r1 : w4.cell? ⟨rb, 1, none⟩ = some (.slice uq ul uc) := c3 1
    have r2 : w4.cell? ⟨rb, 2, none⟩ = some (.int .i64 ((dr.rd : Nat) : Int)) := c3 2
    have r3 : w4.cell? ⟨rb, 3, none⟩ = some (.bool true) := c3 3
    have r4 : w4.cell? ⟨rb, 4, none⟩ = some (.bool dr.en) := c3 4
    clear c3 c4
    go_wp2_with (first | (go_at_call 26; refine WT.it.mono ?_; rintro e w7 ⟨q7, l7, c7, rfl, R7, K7⟩
                          have D7 := Aside.mk (D4.it.quiet K7.it)
                          obtain ⟨x0, x1, x2, _, _⟩ := D7.it.cells) | fail)
    have FN := Aside.mk (D7.it.fin (by have := HBX.it; omega) (.slice q7 l7 c7))
    have y0 := FN.it.2
    refine bodyPost_ret (v := .tuple #[.agg #[.slice q7 l7 c7], .int .i64 0]) (by simp [results, Tryd.f22, go_sem, y0]) rfl ?_
    exact ⟨_, _, _, _, by rw [HC1.it]; try rfl, ⟨with_fin R7.it D4.it (give_new (by have := HBX.it; omega)) (lab8 _ _), by rw [HC2.it, mdl_set]; rfl⟩, ⟨FN.it.1⟩⟩
set_option maxRecDepth 20000 in
set_option maxHeartbeats 2000000 in
theorem dEnded (h : RdD own w v U) (hl : U.length ≤ 1073741824) (ok : TOk T (mdl U)) (z : Int) :
    Calls Tryd.prog 24 #[.agg #[v], .int .i64 z] w fun e w' => DEnds own w (endedL (mdl U) z) (endedC (mdl U) z) e w' := by
  have H := Aside.mk h
  have UP := Aside.mk ok.up
  have GOK := ok.got z
  have hg := mdl_got U z
  have hk := dgot_k U z
  have hu := h.got z
  obtain ⟨d, hd⟩ : ∃ d, dgot U z = d := ⟨_, rfl⟩
  rw [hd] at hg hu hk
  rw [← hg] at GOK
  obtain ⟨W1, hW1⟩ : ∃ W1, (w.alloc (.cells #[v] 28)).alloc (.cells #[.slice none 0 0] 28) = W1 := ⟨_, rfl⟩
  have K1 : Aside (Keeps Nowhere w W1) := ⟨by rw [← hW1]; exact ((Keeps.refl _ _).alloc _).alloc _⟩
  have OF := Aside.mk (dOf (h.quiet K1.it) (by omega) z)
  rw [hd] at OF
  obtain ⟨dk, du, dr⟩ := d
  obtain ⟨uq, uc, hdu⟩ := hu.sl
  simp only at hdu hg hk hu GOK
  subst hdu
  subst hk
  obtain ⟨a, c, rfl, _⟩ := h.s
  obtain ⟨ul, hul⟩ : ∃ ul, dr.wr.length = ul := ⟨_, rfl⟩
  simp only [rowV, hul] at OF
  have HU := Aside.mk hu
  rw [hul] at HU
  have HG := Aside.mk hg
  have ST := Aside.mk (fun w2 (K2 : Keeps Nowhere W1 w2) => Dz.start w (.slice a U.length c) (w2 := w2) (by rw [hW1]; exact K2) [.int .i64 dk, .slice uq ul uc, .int .i64 ((dr.rd : Nat) : Int), .bool dr.cl, .bool dr.en])
  obtain ⟨bx, hbx⟩ : ∃ bx, w.heap.size = bx := ⟨_, rfl⟩
  rw [hbx] at ST
  have HBX := Aside.mk hbx
  have d1 : W1.cell? ⟨bx, 0, none⟩ = some (.slice a U.length c) := by
    rw [← hW1, ← hbx, ((Cells.new w _ [.slice a U.length c]).later (S := Nowhere) ((Keeps.refl _ _).alloc _) (fun x => x)).cell]; rfl
  have HUL := Aside.mk hul
  have HGO := Aside.mk GOK
  have HE : Aside (endedB (mdl U) dk = (dr.cl && decide (dr.rd = dr.wr.length))) := ⟨by unfold endedB; rw [← hg]⟩
  have HC1 : Aside (endedC (mdl U) dk = if endedB (mdl U) dk then 0 else 39) := ⟨rfl⟩
  have HC2 : Aside (endedL (mdl U) dk = if endedB (mdl U) dk then tset (mdl U) dk { dr with en := true } else mdl U) := ⟨by unfold endedL; rw [← hg]⟩
  clear h ok hu hd hul hg GOK
  go_enter Tryd.func24, Tryd.ntmps24
  go_upto_region 1 with fail
  clear hW1 hbx
  go_upto_region 2 with (first | (go_at_call 21; refine OF.it.mono ?_; rintro e w2 ⟨rfl, K2⟩) | fail)
  have DZ := Aside.mk (ST.it w2 K2.it)
  have hrb : Aside (w.heap.size ≤ w2.heap.size) := ⟨(K1.it.trans K2.it).size⟩
  have e3 : w2.alloc (.cells #[.int .i64 dk, .slice uq ul uc, .int .i64 ((dr.rd : Nat) : Int), .bool dr.cl, .bool dr.en] 45) = w2.alloc (.cells [.int .i64 dk, .slice uq ul uc, .int .i64 ((dr.rd : Nat) : Int), .bool dr.cl, .bool dr.en].toArray 45) := rfl
  rw [e3]
  generalize w2.alloc (.cells [.int .i64 dk, .slice uq ul uc, .int .i64 ((dr.rd : Nat) : Int), .bool dr.cl, .bool dr.en].toArray 45) = w3 at DZ ⊢
  generalize w2.heap.size = rb at DZ hrb ⊢
  clear ST d1 OF e3
  obtain ⟨c0, c1, c2, c3, c4⟩ := DZ.it.cells
  have r1 : w3.cell? ⟨rb, 1, none⟩ = some (.slice uq ul uc) := c3 1
  have r2 : w3.cell? ⟨rb, 2, none⟩ = some (.int .i64 ((dr.rd : Nat) : Int)) := c3 2
  have r3 : w3.cell? ⟨rb, 3, none⟩ = some (.bool dr.cl) := c3 3
  have r4 : w3.cell? ⟨rb, 4, none⟩ = some (.bool dr.en) := c3 4
  have f4 := c4 4
  cases hcl : dr.cl with
  | false =>
    rw [hcl] at r3
    rw [HE.it, hcl] at HC1 HC2
    have FN := Aside.mk (DZ.it.fin (by have := HBX.it; omega) (.slice a U.length c))
    clear c3 c4 hcl
    go_wp2_with fail
    have y0 := FN.it.2
    refine bodyPost_ret (v := .tuple #[.agg #[.slice a U.length c], .int .i64 39]) (by simp [results, Tryd.f24, go_sem, y0]) rfl ?_
    exact ⟨_, _, _, U, by rw [HC1.it]; try rfl, ⟨H.it.step FN.it.1 9, by rw [HC2.it]; try rfl⟩, ⟨FN.it.1⟩⟩
  | true =>
    rw [hcl] at r3
    rw [HE.it, hcl, HUL.it, Bool.true_and] at HC1 HC2
    obtain ⟨rd, hrd⟩ : ∃ rd, dr.rd = rd := ⟨_, rfl⟩
    have hle : rd ≤ ul := by have := HGO.it.rd; have := HUL.it; omega
    rw [hrd] at HC1 HC2 r2
    by_cases heq : rd = ul
    · simp only [heq, decide_true, if_true] at HC1 HC2
      have d9 : decide ((rd : Int) < (ul : Int)) = false := decide_eq_false (by omega)
      have d10 : ¬ (rd : Int) < (ul : Int) := by omega
      have D4 := Aside.mk (DZ.it.put hrb.it 4 (.bool true))
      rw [hcl, hrd] at D4
      have HRD := Aside.mk (And.intro heq hcl)
      clear hcl c3 c4 heq hle hrd
      go_upto_region 5 with fail
      clear c0 c1 c2 r1 r2 r3 r4 f4
      generalize w3.setCell ⟨rb, 4, none⟩ (.bool true) = w4 at D4 ⊢
      have WT := Aside.mk (dWith (own := give own w.heap.size 8) (d := ⟨dk, .slice uq ul uc, ⟨dr.wr, rd, true, true⟩⟩) (H.it.step D4.it.k 8) hl UP.it (HU.it.sn (I := fun _ => False) (Sn.quiet D4.it.k 8) (fun x => x)))
      simp only [rowV] at WT
      obtain ⟨c0, c1, c2, c3, c4⟩ := D4.it.cells
      have r0 : w4.cell? ⟨rb, 0, none⟩ = some (.int .i64 dk) := c3 0
      have r1 : w4.cell? ⟨rb, 1, none⟩ = some (.slice uq ul uc) := c3 1
      have r2 : w4.cell? ⟨rb, 2, none⟩ = some (.int .i64 rd) := c3 2
      have r3 : w4.cell? ⟨rb, 3, none⟩ = some (.bool true) := c3 3
      have r4 : w4.cell? ⟨rb, 4, none⟩ = some (.bool true) := c3 4
      clear c3 c4
      go_wp2_with (first | (go_at_call 26; refine WT.it.mono ?_; rintro e w7 ⟨q7, l7, c7, rfl, R7, K7⟩
                            have D7 := Aside.mk (D4.it.quiet K7.it)
                            obtain ⟨x0, x1, x2, _, _⟩ := D7.it.cells) | fail)
      have FN := Aside.mk (D7.it.fin (by have := HBX.it; omega) (.slice q7 l7 c7))
      have y0 := FN.it.2
      refine bodyPost_ret (v := .tuple #[.agg #[.slice q7 l7 c7], .int .i64 0]) (by simp [results, Tryd.f24, go_sem, y0]) rfl ?_
      exact ⟨_, _, _, _, by rw [HC1.it]; try rfl, ⟨with_fin R7.it D4.it (give_new (by have := HBX.it; omega)) (lab8 _ _), by rw [HC2.it, mdl_set]; simp [HRD.it.1]⟩, ⟨FN.it.1⟩⟩
    · have e9 : decide (rd = ul) = false := decide_eq_false heq
      simp only [e9, Bool.false_eq_true, if_false] at HC1 HC2
      have d9 : decide ((rd : Int) < (ul : Int)) = true := decide_eq_true (by omega)
      have d10 : (rd : Int) < (ul : Int) := by omega
      clear heq hle hrd
      have FN := Aside.mk (DZ.it.fin (by have := HBX.it; omega) (.slice a U.length c))
      clear c3 c4 hcl
      go_wp2_with fail
      have y0 := FN.it.2
      refine bodyPost_ret (v := .tuple #[.agg #[.slice a U.length c], .int .i64 39]) (by simp [results, Tryd.f24, go_sem, y0]) rfl ?_
      exact ⟨_, _, _, U, by rw [HC1.it]; try rfl, ⟨H.it.step FN.it.1 9, by rw [HC2.it]; try rfl⟩, ⟨FN.it.1⟩⟩
set_option maxRecDepth 20000 in
set_option maxHeartbeats 2000000 in
theorem dWrote (h : RdD own w v U) (hl : U.length ≤ 1073741824) (ok : TOk T (mdl U)) (z : Int) (hr : Rd w sl ns) (hT : T + ns.length ≤ 70368744177664) :
    Calls Tryd.prog 9 #[.agg #[v], .int .i64 z, sl] w fun e w' => DEnds own w (wroteL (mdl U) z ns) (wroteC (mdl U) z) e w' := by
  have H := Aside.mk h
  have UP := Aside.mk ok.up
  have GOK := ok.got z
  have hg := mdl_got U z
  have hk := dgot_k U z
  have hu := h.got z
  obtain ⟨d, hd⟩ : ∃ d, dgot U z = d := ⟨_, rfl⟩
  rw [hd] at hg hu hk
  rw [← hg] at GOK
  obtain ⟨W1, hW1⟩ : ∃ W1, (w.alloc (.cells #[v] 28)).alloc (.cells #[.slice none 0 0] 28) = W1 := ⟨_, rfl⟩
  have K1 : Aside (Keeps Nowhere w W1) := ⟨by rw [← hW1]; exact ((Keeps.refl _ _).alloc _).alloc _⟩
  have OF := Aside.mk (dOf (h.quiet K1.it) (by omega) z)
  rw [hd] at OF
  obtain ⟨dk, du, dr⟩ := d
  obtain ⟨uq, uc, hdu⟩ := hu.sl
  simp only at hdu hg hk hu GOK
  subst hdu
  subst hk
  obtain ⟨a, c, rfl, _⟩ := h.s
  obtain ⟨ul, hul⟩ : ∃ ul, dr.wr.length = ul := ⟨_, rfl⟩
  simp only [rowV, hul] at OF
  have HU := Aside.mk hu
  rw [hul] at HU
  have HG := Aside.mk hg
  have ST := Aside.mk (fun w2 (K2 : Keeps Nowhere W1 w2) => Dz.start w (.slice a U.length c) (w2 := w2) (by rw [hW1]; exact K2) [.int .i64 dk, .slice uq ul uc, .int .i64 ((dr.rd : Nat) : Int), .bool dr.cl, .bool dr.en])
  obtain ⟨bx, hbx⟩ : ∃ bx, w.heap.size = bx := ⟨_, rfl⟩
  rw [hbx] at ST
  have HBX := Aside.mk hbx
  have d1 : W1.cell? ⟨bx, 0, none⟩ = some (.slice a U.length c) := by
    rw [← hW1, ← hbx, ((Cells.new w _ [.slice a U.length c]).later (S := Nowhere) ((Keeps.refl _ _).alloc _) (fun x => x)).cell]; rfl
  have HUL := Aside.mk hul
  have HGO := Aside.mk GOK
  have HC1 : Aside (wroteC (mdl U) dk = if dr.cl then 24 else 0) := ⟨by unfold wroteC; rw [← hg]⟩
  have HC2 : Aside (wroteL (mdl U) dk ns = if dr.cl then mdl U else tset (mdl U) dk { dr with wr := dr.wr ++ ns }) := ⟨by unfold wroteL; rw [← hg]⟩
  obtain ⟨sa, sc, rfl⟩ := hr.shape
  obtain ⟨m, hm⟩ : ∃ m, ns.length = m := ⟨_, rfl⟩
  have HR := Aside.mk hr
  have HM := Aside.mk hm
  rw [hm] at HR ⊢
  have hub : Aside (ul + m ≤ 70368744177664) := ⟨by have := GOK.len; omega⟩
  clear hr hm
  clear h ok hu hd hul hg GOK
  go_enter Tryd.func9, Tryd.ntmps9
  go_upto_region 1 with fail
  clear hW1 hbx
  go_upto_region 2 with (first | (go_at_call 21; refine OF.it.mono ?_; rintro e w2 ⟨rfl, K2⟩) | fail)
  have DZ := Aside.mk (ST.it w2 K2.it)
  have hrb : Aside (w.heap.size ≤ w2.heap.size) := ⟨(K1.it.trans K2.it).size⟩
  have e3 : w2.alloc (.cells #[.int .i64 dk, .slice uq ul uc, .int .i64 ((dr.rd : Nat) : Int), .bool dr.cl, .bool dr.en] 45) = w2.alloc (.cells [.int .i64 dk, .slice uq ul uc, .int .i64 ((dr.rd : Nat) : Int), .bool dr.cl, .bool dr.en].toArray 45) := rfl
  rw [e3]
  generalize w2.alloc (.cells [.int .i64 dk, .slice uq ul uc, .int .i64 ((dr.rd : Nat) : Int), .bool dr.cl, .bool dr.en].toArray 45) = w3 at DZ ⊢
  generalize w2.heap.size = rb at DZ hrb ⊢
  clear ST d1 OF e3
  obtain ⟨c0, c1, c2, c3, c4⟩ := DZ.it.cells
  have r1 : w3.cell? ⟨rb, 1, none⟩ = some (.slice uq ul uc) := c3 1
  have r2 : w3.cell? ⟨rb, 2, none⟩ = some (.int .i64 ((dr.rd : Nat) : Int)) := c3 2
  have r3 : w3.cell? ⟨rb, 3, none⟩ = some (.bool dr.cl) := c3 3
  have r4 : w3.cell? ⟨rb, 4, none⟩ = some (.bool dr.en) := c3 4
  have f1 := c4 1
  cases hcl : dr.cl with
  | true =>
    rw [hcl] at r3 HC1 HC2
    have FN := Aside.mk (DZ.it.fin (by have := HBX.it; omega) (.slice a U.length c))
    clear c3 c4 hcl
    go_wp2_with fail
    have y0 := FN.it.2
    refine bodyPost_ret (v := .tuple #[.agg #[.slice a U.length c], .int .i64 24]) (by simp [results, Tryd.f9, go_sem, y0]) rfl ?_
    exact ⟨_, _, _, U, by rw [HC1.it]; try rfl, ⟨H.it.step FN.it.1 9, by rw [HC2.it]; try rfl⟩, ⟨FN.it.1⟩⟩
  | false =>
    rw [hcl] at r3 HC1 HC2
    have KA : Keeps Nowhere w3 (w3.alloc (.cells #[] 5)) := (Keeps.refl _ _).alloc _
    have DA := DZ.it.quiet KA
    have r1' : (w3.alloc (.cells #[] 5)).cell? ⟨rb, 1, none⟩ = some (.slice uq ul uc) := DA.cells.2.2.2.1 1
    have OM := Aside.mk (own_made w3)
    have bd : Aside (([] : List Int).length + dr.wr.length ≤ 140737488355328) := ⟨by rw [HUL.it]; simp; have := hub.it; omega⟩
    have bd2 : Aside (([] ++ dr.wr).length + ns.length ≤ 140737488355328) := ⟨by rw [List.nil_append, HUL.it, HM.it]; have := hub.it; omega⟩
    have hsz : Aside (w3.heap.size ≤ (w3.alloc (.cells #[] 5)).heap.size) := ⟨KA.size⟩
    have HU3 := Aside.mk (HU.it.1.later (DZ.it.k.trans KA).bel)
    have KAA := Aside.mk KA
    clear KA DA c3 c4
    go_upto_region 6 with (first
      | (at_builtin; refine wpList_appendB rfl _ _ rfl w3.heap.size _ _ ([] ++ dr.wr) ns O4.it (HR.it.later (DZ.it.k.trans (Keeps.ofBelow (KAA.it.bel.trans K4.it))).bel) bd2.it (Nat.le_trans hsz.it K4.it.size) rfl rfl ?_; intro v5 w5 O5 K5)
      | (at_builtin; refine wpList_appendB rfl _ _ rfl w3.heap.size _ _ [] dr.wr OM.it HU3.it bd.it hsz.it rfl rfl ?_; intro v4 w4 O4 K4)
      | go_in)
    rw [List.nil_append] at O5
    obtain ⟨q5, c5, hv5⟩ := O5.it.val
    obtain ⟨l5, hl5⟩ : ∃ l5, (dr.wr ++ ns).length = l5 := ⟨_, rfl⟩
    rw [hl5] at hv5
    subst hv5
    have K35 : Aside (Keeps Nowhere w3 w5) := ⟨Keeps.ofBelow ((KAA.it.bel.trans K4.it).trans K5.it)⟩
    have D5 := Aside.mk (DZ.it.quiet K35.it)
    have D4 := Aside.mk (D5.it.put hrb.it 1 (.slice q5 l5 c5))
    rw [hcl] at D4
    have x1 : w5.cell? ⟨rb, 1, none⟩ = some (.slice uq ul uc) := D5.it.cells.2.2.2.1 1
    have x2 := D5.it.cells.2.2.2.2 1
    have hne5 := Aside.mk (cells_row_ne D5.it.r O5.it (by decide))
    have KS : Aside (Keeps (fun k => k = rb) w5 (w5.setCell ⟨rb, 1, none⟩ (.slice q5 l5 c5))) := ⟨(Keeps.refl _ _).setCell _ _ (fun _ => rfl)⟩
    have HL5 := Aside.mk hl5
    clear hcl hl5 r1' K4 O4
    go_upto_region 7 with fail
    clear c0 c1 c2 r1 r2 r3 r4 f1 x1 x2
    generalize w5.setCell ⟨rb, 1, none⟩ (.slice q5 l5 c5) = w6 at D4 KS ⊢
    have OWN : Aside (RdO (give (give own w.heap.size 8) w3.heap.size 9) 9 w6 (.slice q5 l5 c5) (dr.wr ++ ns)) := ⟨by
      have ho := owns_later O5.it KS.it (fun y hy e => hne5.it (by rw [hy, e]))
      exact ⟨OwnB.rd ho, fun g hg => ⟨owns_lt ho g hg, give_new (owns_base ho g hg)⟩⟩⟩
    have S39 : Aside (RdD (give (give own w.heap.size 8) w3.heap.size 9) w6 (.slice a U.length c) U) := ⟨by
      have h3 : RdD (give own w.heap.size 8) w3 (.slice a U.length c) U := H.it.step DZ.it.k 8
      have h5 := h3.step K35.it 9
      have e8 : give (give own w.heap.size 8) w3.heap.size 9 rb = 8 := by rw [give_old DZ.it.r.lt]; exact give_new hrb.it
      exact h5.sn (I := fun k => k = 8) ⟨fun _ _ => rfl, KS.it.mono (fun k e _ => by rw [e]; exact e8)⟩ (by decide)⟩
    have WT := Aside.mk (dWith (own := give (give own w.heap.size 8) w3.heap.size 9) (d := ⟨dk, .slice q5 l5 c5, ⟨dr.wr ++ ns, dr.rd, false, dr.en⟩⟩) S39.it hl UP.it (OWN.it))
    simp only [rowV] at WT
    obtain ⟨c0, c1, c2, c3, c4⟩ := D4.it.cells
    have r0 : w6.cell? ⟨rb, 0, none⟩ = some (.int .i64 dk) := c3 0
    have r1 : w6.cell? ⟨rb, 1, none⟩ = some (.slice q5 l5 c5) := c3 1
    have r2 : w6.cell? ⟨rb, 2, none⟩ = some (.int .i64 ((dr.rd : Nat) : Int)) := c3 2
    have r3 : w6.cell? ⟨rb, 3, none⟩ = some (.bool false) := c3 3
    have r4 : w6.cell? ⟨rb, 4, none⟩ = some (.bool dr.en) := c3 4
    clear c3 c4
    go_wp2_with (first | (go_at_call 26; refine WT.it.mono ?_; rintro e w7 ⟨q7, l7, c7, rfl, R7, K7⟩
                          have D7 := Aside.mk (D4.it.quiet K7.it)
                          obtain ⟨x0, x1, x2, _, _⟩ := D7.it.cells) | fail)
    have FN := Aside.mk (D7.it.fin (by have := HBX.it; omega) (.slice q7 l7 c7))
    have y0 := FN.it.2
    refine bodyPost_ret (v := .tuple #[.agg #[.slice q7 l7 c7], .int .i64 0]) (by simp [results, Tryd.f9, go_sem, y0]) rfl ?_
    exact ⟨_, _, _, _, by rw [HC1.it]; try rfl, ⟨with_fin R7.it D4.it (by rw [give_old DZ.it.a.lt]; exact give_new (by have := HBX.it; omega)) (lab89 _ DZ.it.k.size), by rw [HC2.it, mdl_set]; simp⟩, ⟨FN.it.1⟩⟩
end Go.Proofs.YtambdgcogldbgaaDoor

/-
  the document's history (culvertref24): Gave
-/
namespace Go.Proofs.YtambdgcogldbgaaDoor
open Go.RowKit Go.Maps

variable {w w' W w2 : World} {own own' : Nat → Nat} {v : Value} {U : Ds} {I : Nat → Prop} {k : Int} {d : Dr} {T : Nat} {ns : List Int} {sl : Value}
set_option maxRecDepth 20000 in
set_option maxHeartbeats 2000000 in
theorem dGave (h : RdD own w v U) (hl : U.length ≤ 1073741824) (ok : TOk T (mdl U)) (z : Int) (hr : Rd w sl ns) (hby : AreBytes ns) (hT : T ≤ 70368744177664) :
    Calls Tryd.prog 11 #[.agg #[v], .int .i64 z, sl] w fun e w' => DEnds own w (gaveL (mdl U) z ns) (gaveC (mdl U) z ns) e w' := by
  have H := Aside.mk h
  have UP := Aside.mk ok.up
  have GOK := ok.got z
  have hg := mdl_got U z
  have hk := dgot_k U z
  have hu := h.got z
  obtain ⟨d, hd⟩ : ∃ d, dgot U z = d := ⟨_, rfl⟩
  rw [hd] at hg hu hk
  rw [← hg] at GOK
  obtain ⟨W1, hW1⟩ : ∃ W1, (w.alloc (.cells #[v] 28)).alloc (.cells #[.slice none 0 0] 28) = W1 := ⟨_, rfl⟩
  have K1 : Aside (Keeps Nowhere w W1) := ⟨by rw [← hW1]; exact ((Keeps.refl _ _).alloc _).alloc _⟩
  have OF := Aside.mk (dOf (h.quiet K1.it) (by omega) z)
  rw [hd] at OF
  obtain ⟨dk, du, dr⟩ := d
  obtain ⟨uq, uc, hdu⟩ := hu.sl
  simp only at hdu hg hk hu GOK
  subst hdu
  subst hk
  obtain ⟨a, c, rfl, _⟩ := h.s
  obtain ⟨ul, hul⟩ : ∃ ul, dr.wr.length = ul := ⟨_, rfl⟩
  simp only [rowV, hul] at OF
  have HU := Aside.mk hu
  rw [hul] at HU
  have HG := Aside.mk hg
  have ST := Aside.mk (fun w2 (K2 : Keeps Nowhere W1 w2) => Dz.start w (.slice a U.length c) (w2 := w2) (by rw [hW1]; exact K2) [.int .i64 dk, .slice uq ul uc, .int .i64 ((dr.rd : Nat) : Int), .bool dr.cl, .bool dr.en])
  obtain ⟨bx, hbx⟩ : ∃ bx, w.heap.size = bx := ⟨_, rfl⟩
  rw [hbx] at ST
  have HBX := Aside.mk hbx
  have d1 : W1.cell? ⟨bx, 0, none⟩ = some (.slice a U.length c) := by
    rw [← hW1, ← hbx, ((Cells.new w _ [.slice a U.length c]).later (S := Nowhere) ((Keeps.refl _ _).alloc _) (fun x => x)).cell]; rfl
  have HUL := Aside.mk hul
  have HGO := Aside.mk GOK
  have HC1 : Aside (gaveC (mdl U) dk ns = if gaveRB dr ns then 0 else 39) := ⟨by unfold gaveC; show (if gaveRB (got (mdl U) dk) ns then _ else _) = _; rw [← hg]⟩
  have HC2 : Aside (gaveL (mdl U) dk ns = if gaveRB dr ns then tset (mdl U) dk { dr with rd := dr.rd + ns.length } else mdl U) := ⟨by unfold gaveL; show (if gaveRB (got (mdl U) dk) ns then _ else _) = _; rw [← hg]⟩
  obtain ⟨sa, sc, rfl⟩ := hr.shape
  obtain ⟨m, hm⟩ : ∃ m, ns.length = m := ⟨_, rfl⟩
  have HR := Aside.mk hr
  have HM := Aside.mk hm
  rw [hm] at HR ⊢
  have RSF := Aside.mk (fun W (kp : Keeps Nowhere w W) => dRest (h.quiet kp) (by omega) ok hT dk)
  rw [← hg] at RSF
  obtain ⟨Rn, hRn⟩ : ∃ Rn, dr.rest.length = Rn := ⟨_, rfl⟩
  rw [hRn] at RSF
  have HRn := Aside.mk hRn
  have hRb : Rn ≤ 70368744177664 := by rw [← hRn, Rc.rest_len]; have := GOK.len; omega
  have HRb : Aside (AreBytes dr.rest) := ⟨fun y hy => GOK.byte y (List.mem_of_mem_drop hy)⟩
  clear hr hm hRn
  clear h ok hu hd hul hg GOK
  go_enter Tryd.func11, Tryd.ntmps11
  go_upto_region 1 with fail
  clear hW1 hbx
  go_upto_region 2 with (first | (go_at_call 21; refine OF.it.mono ?_; rintro e w2 ⟨rfl, K2⟩) | fail)
  have DZ := Aside.mk (ST.it w2 K2.it)
  have hrb : Aside (w.heap.size ≤ w2.heap.size) := ⟨(K1.it.trans K2.it).size⟩
  have e3 : w2.alloc (.cells #[.int .i64 dk, .slice uq ul uc, .int .i64 ((dr.rd : Nat) : Int), .bool dr.cl, .bool dr.en] 45) = w2.alloc (.cells [.int .i64 dk, .slice uq ul uc, .int .i64 ((dr.rd : Nat) : Int), .bool dr.cl, .bool dr.en].toArray 45) := rfl
  rw [e3]
  generalize w2.alloc (.cells [.int .i64 dk, .slice uq ul uc, .int .i64 ((dr.rd : Nat) : Int), .bool dr.cl, .bool dr.en].toArray 45) = w3 at DZ ⊢
  generalize w2.heap.size = rb at DZ hrb ⊢
  clear ST d1 OF e3
  obtain ⟨c0, c1, c2, c3, c4⟩ := DZ.it.cells
  have r1 : w3.cell? ⟨rb, 1, none⟩ = some (.slice uq ul uc) := c3 1
  have r2 : w3.cell? ⟨rb, 2, none⟩ = some (.int .i64 ((dr.rd : Nat) : Int)) := c3 2
  have r3 : w3.cell? ⟨rb, 3, none⟩ = some (.bool dr.cl) := c3 3
  have r4 : w3.cell? ⟨rb, 4, none⟩ = some (.bool dr.en) := c3 4
  have f2 := c4 2
  have RS := Aside.mk (RSF.it w3 DZ.it.k)
  clear RSF c3 c4
  go_upto_region 3 with (first | (go_at_call 7; refine RS.it.mono ?_; rintro e w4 ⟨q4, c4, rfl, R4, K4⟩) | fail)
  have D4 := Aside.mk (DZ.it.quiet K4.it)
  have HR4 := Aside.mk (HR.it.later (DZ.it.k.trans K4.it).bel)
  have RD4 : Aside (Rd w4 (.slice q4 Rn c4) dr.rest) := ⟨OwnB.rd R4.it⟩
  clear RS c0 c1 c2 r1 r2 r3 r4 f2
  by_cases hlt : Rn < m
  · have gb : Aside (gaveRB dr ns = false) := ⟨by unfold gaveRB; rw [HM.it, HRn.it, decide_eq_false (by omega), Bool.false_and]⟩
    have dd : (Rn : Int) < (m : Int) := by omega
    have FN := Aside.mk (D4.it.fin (by have := HBX.it; omega) (.slice a U.length c))
    obtain ⟨c0, c1, c2, _, _⟩ := D4.it.cells
    go_wp2_with fail
    have y0 := FN.it.2
    refine bodyPost_ret (v := .tuple #[.agg #[.slice a U.length c], .int .i64 39]) (by simp [results, Tryd.f11, go_sem, y0]) rfl ?_
    exact ⟨_, _, _, U, by rw [HC1.it, gb.it]; try rfl, ⟨H.it.step FN.it.1 9, by rw [HC2.it, gb.it]; try rfl⟩, ⟨FN.it.1⟩⟩
  · have dd : ¬ (Rn : Int) < (m : Int) := by omega
    have hmm : (m : Int) ≤ 70368744177664 := by omega
    go_upto_region 6 with fail
    go_loopw [11] (fun iv wr => ∃ j : Nat, iv = .int .i64 j ∧ j ≤ m ∧ Aside (Keeps Nowhere w4 wr ∧ dr.rest.take j = ns.take j)) (fun iv _ => m - natOfT iv)
    case atStart => exact ⟨0, rfl, Nat.zero_le _, ⟨Keeps.refl _ _, rfl⟩⟩
    case round =>
      obtain ⟨j, rfl, hj, KJ⟩ := hrel
      have D5 := Aside.mk (D4.it.quiet KJ.it.1)
      rcases Nat.eq_or_lt_of_le hj with rfl | hjl
      · have gb : Aside (gaveRB dr ns = true) := ⟨by
          unfold gaveRB
          rw [HM.it, HRn.it, decide_eq_true (by omega), Bool.true_and, decide_eq_true_eq, KJ.it.2]
          exact List.take_of_length_le (by rw [HM.it]; exact Nat.le_refl _)⟩
        obtain ⟨rd, hrd⟩ : ∃ rd, dr.rd = rd := ⟨_, rfl⟩
        have hrb2 : rd ≤ 70368744177664 := by have := HGO.it.rd; have := HGO.it.len; omega
        have s1 : (rd : Int) + (j : Int) ≤ 9223372036854775807 := by omega
        have s0 : (0 : Int) ≤ (rd : Int) + (j : Int) := by omega
        have D6 := Aside.mk (D5.it.put hrb.it 2 (.int .i64 ((rd : Int) + (j : Int))))
        have x2 : wr.cell? ⟨rb, 2, none⟩ = some (.int .i64 (rd : Int)) := by rw [← hrd]; exact D5.it.cells.2.2.2.1 2
        have x3 := D5.it.cells.2.2.2.2 2
        have HRD := Aside.mk hrd
        clear hrd
        go_upto_region 11 with fail
        clear x2 x3
        generalize wr.setCell ⟨rb, 2, none⟩ (.int .i64 ((rd : Int) + (j : Int))) = w6 at D6 ⊢
        have e9 : ((((rd + j : Nat)) : Nat) : Int) = (rd : Int) + (j : Int) := by omega
        have WT := Aside.mk (dWith (own := give own w.heap.size 8) (d := ⟨dk, .slice uq ul uc, ⟨dr.wr, rd + j, dr.cl, dr.en⟩⟩) (H.it.step D6.it.k 8) hl UP.it (HU.it.sn (I := fun _ => False) (Sn.quiet D6.it.k 8) (fun x => x)))
        simp only [rowV, e9] at WT
        obtain ⟨c0, c1, c2, c3, c4⟩ := D6.it.cells
        have r0 : w6.cell? ⟨rb, 0, none⟩ = some (.int .i64 dk) := c3 0
        have r1 : w6.cell? ⟨rb, 1, none⟩ = some (.slice uq ul uc) := c3 1
        have r2 : w6.cell? ⟨rb, 2, none⟩ = some (.int .i64 ((rd : Int) + (j : Int))) := c3 2
        have r3 : w6.cell? ⟨rb, 3, none⟩ = some (.bool dr.cl) := c3 3
        have r4 : w6.cell? ⟨rb, 4, none⟩ = some (.bool dr.en) := c3 4
        clear c3 c4
        go_wp2_with (first | (go_at_call 26; refine WT.it.mono ?_; rintro e w7 ⟨q7, l7, c7, rfl, R7, K7⟩
                              have D7 := Aside.mk (D6.it.quiet K7.it)
                              obtain ⟨x0, x1, x2, _, _⟩ := D7.it.cells) | fail)
        have FN := Aside.mk (D7.it.fin (by have := HBX.it; omega) (.slice q7 l7 c7))
        have y0 := FN.it.2
        refine bodyPost_ret (v := .tuple #[.agg #[.slice q7 l7 c7], .int .i64 0]) (by simp [results, Tryd.f11, go_sem, y0]) rfl ?_
        exact ⟨_, _, _, _, by rw [HC1.it, gb.it]; rfl, ⟨with_fin R7.it D6.it (give_new (by have := HBX.it; omega)) (lab8 _ _), by rw [HC2.it, gb.it, mdl_set, HM.it, HRD.it]; rfl⟩, ⟨FN.it.1⟩⟩
      · obtain ⟨x, hx⟩ : ∃ x, ns[j]? = some x := ⟨_, List.getElem?_eq_getElem (by rw [HM.it]; exact hjl)⟩
        obtain ⟨y, hy⟩ : ∃ y, dr.rest[j]? = some y := ⟨_, List.getElem?_eq_getElem (by rw [HRn.it]; omega)⟩
        obtain ⟨g1, o1, c1', e1, _, hc1⟩ := (HR4.it.later KJ.it.1.bel).at (by rintro rfl; simp at hx)
        obtain ⟨g2, o2, c2', e2, _, hc2⟩ := (RD4.it.later KJ.it.1.bel).at (by intro e; rw [e] at hy; simp at hy)
        injection e1 with e1 _ _
        injection e2 with e2 _ _
        subst e1 e2
        have u1 : wr.cell? ⟨g1, o1 + j, none⟩ = some (.int .u8 x) := hc1 j _ (by simp [bv, hx])
        have u2 : wr.cell? ⟨g2, o2 + j, none⟩ = some (.int .u8 y) := hc2 j _ (by simp [bv, hy])
        have s3 : (j : Int) < (m : Int) := by omega
        have s4 : (j : Int) < (Rn : Int) := by omega
        have HXY := Aside.mk (And.intro hx hy)
        clear hc1 hc2 hx hy
        by_cases hxy : x = y
        · have q1 : (x != y) = false := by simp [hxy]
          have NX : Aside (dr.rest.take (j + 1) = ns.take (j + 1)) := ⟨by rw [List.take_add_one, List.take_add_one, KJ.it.2, HXY.it.1, HXY.it.2, hxy]⟩
          clear hxy
          go_upto_region 8 with fail
          go_quiet (fail)
          go_wp2_with fail
          go_roundw
          case rel => exact ⟨j + 1, by go_num, by omega, ⟨KJ.it.1.trans ((Keeps.refl _ _).drewN _), NX.it⟩⟩
          case measure => simp [natOfT]; omega
        · have q1 : (x != y) = true := by simp [hxy]
          have gb : Aside (gaveRB dr ns = false) := ⟨by
            unfold gaveRB
            rw [Bool.and_eq_false_iff]
            refine .inr (decide_eq_false (fun e => hxy ?_))
            have h1 : (dr.rest.take ns.length)[j]? = ns[j]? := by rw [e]
            rw [List.getElem?_take, if_pos (by rw [HM.it]; exact hjl), HXY.it.1, HXY.it.2] at h1
            injection h1 with h1
            exact h1.symm⟩
          clear hxy
          go_upto_region 8 with fail
          go_cut [41] (fun t wx => t = .bool true ∧ Aside (Keeps Nowhere w4 wx))
          case first =>
            go_quiet (fail)
            go_wp2_with fail
            go_meet
            exact ⟨rfl, ⟨KJ.it.1.trans ((Keeps.refl _ _).drewN _)⟩⟩
          case rest =>
            obtain ⟨rfl, KX⟩ := hcut
            have D6 := Aside.mk (D4.it.quiet KX.it)
            clear u1 u2
            have FN := Aside.mk (D6.it.fin (by have := HBX.it; omega) (.slice a U.length c))
            obtain ⟨c0, c1, c2, _, _⟩ := D6.it.cells
            go_wp2_with fail
            have y0 := FN.it.2
            refine bodyPost_ret (v := .tuple #[.agg #[.slice a U.length c], .int .i64 39]) (by simp [results, Tryd.f11, go_sem, y0]) rfl ?_
            exact ⟨_, _, _, U, by rw [HC1.it, gb.it]; try rfl, ⟨H.it.step FN.it.1 9, by rw [HC2.it, gb.it]; try rfl⟩, ⟨FN.it.1⟩⟩
end Go.Proofs.YtambdgcogldbgaaDoor

