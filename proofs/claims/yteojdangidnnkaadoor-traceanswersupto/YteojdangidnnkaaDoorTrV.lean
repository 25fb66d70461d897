/-
  the document's history (culvertref24): with
-/
import Derived.Test.YteojdangidnnkaaDoorTrU
import Derived.BigRegion
namespace Go.Proofs.YteojdangidnnkaaDoor
open Go.RowKit Go.Maps

variable {w w' W : World} {own own' : Nat → Nat} {v : Value} {U : Ds} {I : Nat → Prop} {k : Int} {d : Dr}
theorem rinfo : (Tryd.prog.info? 59).map (fun i => (i.zero, i.size, i.bytes)) = some (some (.agg #[.int .i64 0, .slice none 0 0, .int .i64 0, .bool false, .bool false]), 5, 48) := by kernel_rfl
theorem owns_sl {base n : Nat} {xs : List Value} {k : Nat} {e : TypeId} (h : w.ownsRow base e k v n xs) : ∃ q c, v = .slice q n c := owns_val h
/-- append of a row -/
theorem app5 {base : Nat} {vo : Value} (hown : W.ownsRow base 59 5 vo U.length (flat24 U)) (hu : ∃ q l c, d.u = .slice q l c) (hn : U.length + 1 ≤ 2147483648) (hb : base ≤ W.heap.size) {W2 : World} (hW : W2 = W.alloc (.cells (fl5 d).toArray 59) ∨ W2 = (W.alloc (.cells (fl5 d).toArray 59)).drew) :
    ∃ q c w', (∀ ty, (Builtin.append_ #[26, 26] ty #[vo, .slice (some ⟨W.heap.size, 0, none⟩) 1 1]).run Tryd.prog W2 = .ok (.slice q (U.length + 1) c) w') ∧ Aside (w'.ownsRow base 59 5 (.slice q (U.length + 1) c) (U ++ [d]).length (flat24 (U ++ [d]))) ∧ Aside (Keeps (fun b => vo.ownBlock = some b) W w') := by
  obtain ⟨i, hi, hz0, hz1, hz2⟩ := info_parts rinfo
  have hr : ReadsK 5 W2 (.slice (some ⟨W.heap.size, 0, none⟩) 1 1) 1 (fl5 d) := by
    rcases hW with rfl | rfl
    · exact readsK_new W 59 (fl5 d)
    · exact readsK_new W 59 (fl5 d)
  have hK : Keeps Nowhere W W2 := by
    rcases hW with rfl | rfl
    · exact (Keeps.refl _ _).alloc _
    · exact ((Keeps.refl _ _).alloc _).drew
  have h1 : ∀ u ∈ fl5 d, u.oneCell' = true := by
    intro u hu'
    obtain ⟨q, l, c, e⟩ := hu
    simp only [fl5, List.mem_cons, List.not_mem_nil, or_false] at hu'
    rcases hu' with rfl | rfl | rfl | rfl | rfl
    · rfl
    · rw [e]; rfl
    · rfl
    · rfl
    · rfl
  have ho2 := owns_later hown hK (fun _ _ x => x)
  obtain ⟨v', w', run, o', g', _⟩ := run_appendR (P := Tryd.prog) W2 base 26 59 i _ 5 48 Tryd.underlying26 hi hz0 hz1 hz2 rfl (by decide) vo U.length (flat24 U) ho2 _ 1 (fl5 d) hr h1 (by omega) (by unfold maxLen; omega) (Nat.le_trans hb hK.size)
  obtain ⟨q, c, rfl⟩ := owns_sl o'
  refine ⟨q, c, w', run, ⟨?_⟩, ⟨?_⟩⟩
  · rw [flat24_snoc, List.length_append]
    exact o'
  · refine (hK.mono (fun _ e _ => e.elim)).trans (grown_keeps g')
/-- rows that the document has just made -/
theorem owns_rdD {base n : Nat} (h : w'.ownsRow base 59 5 v n (flat24 U)) (hn : n = U.length) (hb : w.heap.size ≤ base) (hu : ∀ d ∈ U, RdO (give own w.heap.size 9) 9 w' d.u d.r.wr) : RdD (give own w.heap.size 9) w' v U := by
  subst hn
  refine ⟨?_, hu⟩
  rcases h.2 with ⟨rfl, h0⟩ | ⟨g, cap, cur, rfl, hg, hc, hn, hm, hs, ht⟩
  · obtain rfl : U = [] := List.eq_nil_of_length_eq_zero h0
    exact (RdD.nil _ _).s
  · refine ⟨_, cap, rfl, hn, fun j x hj => ⟨g, rfl, give_new (by omega), ?_⟩⟩
    have key : ∀ k u, (fl5 x)[k]? = some u → w'.cell? ⟨g, j * 5 + k, none⟩ = some u := fun k u hk => by
      have := h.cells rfl (j * 5 + k) _ (flat24_at U j x hj k _ hk)
      rwa [add_none, Nat.zero_add] at this
    exact ⟨key 0 _ rfl, key 1 _ rfl, key 2 _ rfl, key 3 _ rfl, key 4 _ rfl⟩
/-- how far the copy has come -/
def Wi (U : Ds) (d : Dr) (j : Nat) (done : Bool) (V : Ds) : Prop := (done = false ∧ V = U.take j ∧ ∀ x ∈ U.take j, x.k < d.k) ∨ (done = true ∧ V = dset (U.take j) d ∧ ∃ x ∈ U.take j, d.k ≤ x.k)
theorem up_at (hu : (tk (mdl U)).Pairwise (· < ·)) {j : Nat} {y : Dr} (hy : U[j]? = some y) : ∀ x ∈ U.take j, x.k < y.k := by
  intro x hx
  obtain ⟨i, hi⟩ := List.getElem?_of_mem hx
  rw [List.getElem?_take] at hi
  split at hi
  · rename_i hij
    have e : ∀ (t : Nat) (z : Dr), U[t]? = some z → (tk (mdl U))[t]? = some z.k := fun t z h => by simp [tk, mdl, h]
    have h1 := e i x hi
    have h2 := e j y hy
    have hjl := (List.getElem?_eq_some_iff.1 h2).1
    have hil := (List.getElem?_eq_some_iff.1 h1).1
    have := List.pairwise_iff_getElem.1 hu i j hil hjl hij
    rw [List.getElem?_eq_getElem hil] at h1
    rw [List.getElem?_eq_getElem hjl] at h2
    simp only [Option.some.injEq] at h1 h2
    omega
  · cases hi
/-- behind the first test of a round -/
def Wm (U : Ds) (d : Dr) (j : Nat) (y : Dr) (done : Bool) (V : Ds) : Prop := (done = false ∧ V = U.take j ∧ (∀ x ∈ U.take j, x.k < d.k) ∧ y.k < d.k) ∨ (done = true ∧ (if y.k = d.k then V else V ++ [y]) = dset (U.take (j + 1)) d ∧ ∃ x ∈ U.take (j + 1), d.k ≤ x.k)
theorem Wi.done {j : Nat} {y : Dr} {V : Ds} (h : Wi U d j true V) (hu : (tk (mdl U)).Pairwise (· < ·)) (hy : U[j]? = some y) : Wm U d j y true V := by
  rcases h with ⟨h, _⟩ | ⟨_, rfl, x, hx, hk⟩
  · cases h
  · have h1 := up_at hu hy x hx
    refine .inr ⟨rfl, ?_, x, by rw [dtake_snoc hy]; exact List.mem_append_left _ hx, hk⟩
    rw [if_neg (by omega), dtake_snoc hy, dset_high ⟨x, hx, hk⟩]
theorem Wi.low {j : Nat} {y : Dr} {V : Ds} (h : Wi U d j false V) (hk : y.k < d.k) : Wm U d j y false V := by
  rcases h with ⟨_, h1, h2⟩ | ⟨h, _⟩
  · exact .inl ⟨rfl, h1, h2, hk⟩
  · cases h
theorem Wi.put {j : Nat} {y : Dr} {V : Ds} (h : Wi U d j false V) (hy : U[j]? = some y) (hk : d.k ≤ y.k) : Wm U d j y true (V ++ [d]) := by
  rcases h with ⟨_, rfl, h2⟩ | ⟨h, _⟩
  · refine .inr ⟨rfl, ?_, y, by rw [dtake_snoc hy]; exact List.mem_append_right _ (List.mem_singleton.2 rfl), hk⟩
    rw [dtake_snoc hy, dset_low h2]
    show _ = U.take j ++ (if y.k < d.k then y :: dset [] d else if y.k = d.k then d :: [] else d :: y :: [])
    rw [if_neg (show ¬ y.k < d.k by omega)]
    split <;> simp
  · cases h
theorem Wm.next {j : Nat} {y : Dr} {V : Ds} {done : Bool} (h : Wm U d j y done V) (hy : U[j]? = some y) : Wi U d (j + 1) done (if y.k = d.k then V else V ++ [y]) := by
  rcases h with ⟨rfl, rfl, h2, h3⟩ | ⟨rfl, h1, h2⟩
  · refine .inl ⟨rfl, ?_, ?_⟩
    · rw [if_neg (by omega), dtake_snoc hy]
    · rw [dtake_snoc hy]
      intro x hx
      rcases List.mem_append.1 hx with hx | hx
      · exact h2 x hx
      · rw [List.mem_singleton] at hx; subst hx; exact h3
  · exact .inr ⟨rfl, h1, h2⟩
theorem Wi.len {j : Nat} {V : Ds} {done : Bool} (h : Wi U d j done V) : V.length ≤ U.length + 1 := by
  have hl : (U.take j).length ≤ U.length := by rw [List.length_take]; omega
  rcases h with ⟨_, rfl, _⟩ | ⟨_, rfl, _⟩
  · omega
  · have := dset_len (U.take j) d; omega
theorem Wi.mem {j : Nat} {V : Ds} {done : Bool} (h : Wi U d j done V) : ∀ x ∈ V, x = d ∨ x ∈ U := by
  rcases h with ⟨_, rfl, _⟩ | ⟨_, rfl, _⟩
  · exact fun x hx => .inr (List.mem_of_mem_take hx)
  · exact fun x hx => (dset_mem hx).imp id List.mem_of_mem_take
/-- the copy's box and rows -/
structure Ws (W1 : World) (Bs ob : Nat) (W : World) (vo : Value) (V : Ds) : Prop where
  c : Cells W ob 28 [vo]
  r : W.ownsRow Bs 59 5 vo V.length (flat24 V)
  k : Keeps (fun x => x = ob) W1 W
  b : Bs ≤ W.heap.size
variable {W1 : World} {Bs ob : Nat} {vo : Value} {V : Ds}
theorem Ws.quiet (h : Ws W1 Bs ob W vo V) (hk : Keeps Nowhere W w') : Ws W1 Bs ob w' vo V := ⟨h.c.later hk (fun x => x), owns_later h.r hk (fun _ _ x => x), h.k.trans (hk.mono (fun _ e _ => e.elim)), Nat.le_trans h.b hk.size⟩
theorem Ws.app (h : Aside (Ws W1 Bs ob W vo V)) (hB : W1.heap.size ≤ Bs) (hu : ∃ q l c, d.u = .slice q l c) (hn : V.length + 1 ≤ 2147483648) {W2 : World} (hW : W2 = W.alloc (.cells (fl5 d).toArray 59) ∨ W2 = (W.alloc (.cells (fl5 d).toArray 59)).drew) :
    ∃ q c w', (∀ ty, (Builtin.append_ #[26, 26] ty #[vo, .slice (some ⟨W.heap.size, 0, none⟩) 1 1]).run Tryd.prog W2 = .ok (.slice q (V.length + 1) c) w') ∧ w'.cell? ⟨ob, 0, none⟩ = some vo ∧ w'.frozen? ⟨ob, 0, none⟩ = false ∧ Aside (Ws W1 Bs ob (w'.setCell ⟨ob, 0, none⟩ (.slice q (V.length + 1) c)) (.slice q (V.length + 1) c) (V ++ [d])) := by
  obtain ⟨q, c, w', run, R, K⟩ := app5 h.it.r hu hn h.it.b hW
  have hne := cells_row_ne h.it.c h.it.r (by decide)
  have c' := h.it.c.later K.it hne
  have hne2 := cells_row_ne c' R.it (by decide)
  have K2 : Keeps (fun x => x = ob) w' (w'.setCell ⟨ob, 0, none⟩ (.slice q (V.length + 1) c)) := (Keeps.refl _ _).setCell _ _ (fun _ => rfl)
  have K3 : Keeps (fun x => x = ob) W1 w' := h.it.k.next K.it (fun x hx hlt => by have := owns_base h.it.r x hx; omega)
  exact ⟨q, c, w', run, by rw [c'.cell]; rfl, c'.frozen 0, ⟨c'.setCell 0 (.slice q (V.length + 1) c), owns_later R.it K2 (fun x hx e => hne2 (by rw [hx, e])), K3.trans K2, Nat.le_trans h.it.b (Nat.le_trans K.it.size K2.size)⟩⟩
attribute [-go_sem] Builtin.append_
set_option maxRecDepth 20000 in
set_option maxHeartbeats 4000000 in
theorem dWith (h : RdD own w v U) (hl : U.length ≤ 1073741824) (hu : (tk (mdl U)).Pairwise (· < ·)) (hd : RdO own 9 w d.u d.r.wr) :
    Calls Tryd.prog 42 #[.agg #[v], rowV d] w fun e w' => ∃ q l c, e = .returned (.agg #[.slice q l c]) ∧ Aside (RdD (give own w.heap.size 9) w' (.slice q l c) (dset U d)) ∧ Aside (Keeps Nowhere w w') := by
  have H := Aside.mk h
  have HD := Aside.mk hd
  have HU := Aside.mk hu
  obtain ⟨a, c, rfl, hlc, hc⟩ := h.s
  obtain ⟨n, hn⟩ : ∃ n, U.length = n := ⟨_, rfl⟩
  have HN := Aside.mk hn
  rw [hn] at hlc hl ⊢
  obtain ⟨dk, du, dr⟩ := d
  obtain ⟨uq, uc, hdu⟩ := hd.sl
  simp only at hdu
  subst hdu
  obtain ⟨ul, hul⟩ : ∃ ul, dr.wr.length = ul := ⟨_, rfl⟩
  simp only [rowV, hul]
  obtain ⟨bx, hbx⟩ : ∃ bx, w.heap.size = bx := ⟨_, rfl⟩
  obtain ⟨W1, hW1⟩ : ∃ W1, ((((w.alloc (.cells #[.slice a n c] 28)).alloc (.cells #[.int .i64 dk, .slice uq ul uc, .int .i64 ((dr.rd : Nat) : Int), .bool dr.cl, .bool dr.en] 59)).alloc (.cells #[.slice none 0 0] 28)).alloc (.cells #[.slice none 0 0] 28)) = W1 := ⟨_, rfl⟩
  have K1 : Aside (Keeps Nowhere w W1) := ⟨by rw [← hW1]; exact ((((Keeps.refl _ _).alloc _).alloc _).alloc _).alloc _⟩
  have C1 : Aside (Cells W1 bx 28 [.slice a n c]) := ⟨by rw [← hW1, ← hbx]; exact (Cells.new w _ _).later (S := Nowhere) ((((Keeps.refl _ _).alloc _).alloc _).alloc _) (fun x => x)⟩
  have C2 : Aside (Cells W1 (bx + 1) 59 [.int .i64 dk, .slice uq ul uc, .int .i64 ((dr.rd : Nat) : Int), .bool dr.cl, .bool dr.en]) := ⟨by
    have h := Cells.new (w.alloc (.cells #[.slice a n c] 28)) 59 [.int .i64 dk, .slice uq ul uc, .int .i64 ((dr.rd : Nat) : Int), .bool dr.cl, .bool dr.en]
    rw [World.size_alloc, hbx] at h
    rw [← hW1]; exact h.later (S := Nowhere) (((Keeps.refl _ _).alloc _).alloc _) (fun x => x)⟩
  have C3 : Aside (Cells W1 (bx + 1 + 1) 28 [.slice none 0 0]) := ⟨by
    have h := Cells.new ((w.alloc (.cells #[.slice a n c] 28)).alloc (.cells #[.int .i64 dk, .slice uq ul uc, .int .i64 ((dr.rd : Nat) : Int), .bool dr.cl, .bool dr.en] 59)) 28 [.slice none 0 0]
    rw [World.size_alloc, World.size_alloc, hbx] at h
    rw [← hW1]; exact h.later (S := Nowhere) ((Keeps.refl _ _).alloc _) (fun x => x)⟩
  have C4 : Aside (Cells W1 (bx + 1 + 1 + 1) 28 [.slice none 0 0]) := ⟨by
    have h := Cells.new (((w.alloc (.cells #[.slice a n c] 28)).alloc (.cells #[.int .i64 dk, .slice uq ul uc, .int .i64 ((dr.rd : Nat) : Int), .bool dr.cl, .bool dr.en] 59)).alloc (.cells #[.slice none 0 0] 28)) 28 [.slice none 0 0]
    rw [World.size_alloc, World.size_alloc, World.size_alloc, hbx] at h
    rw [← hW1]; exact h⟩
  have HBX := Aside.mk hbx
  have HC := Aside.mk hc
  have HUL := Aside.mk hul
  obtain ⟨ob, hob⟩ : ∃ ob, bx + 1 + 1 + 1 = ob := ⟨_, rfl⟩
  rw [hob] at C4
  have HOB := Aside.mk hob
  clear hc hn h hd hu hul
  have d4 : W1.cell? ⟨ob, 0, none⟩ = some (.slice none 0 0) := by rw [C4.it.cell]; rfl
  have p4 := C4.it.frozen 0
  go_enter Tryd.func42, Tryd.ntmps42
  go_upto_region 3 with fail
  clear hW1 hbx hob d4 p4
  have hK2 : Keeps (fun x => x = ob) W1 (W1.setCell ⟨ob, 0, none⟩ (.slice none 0 0)) := (Keeps.refl _ _).setCell _ _ (fun _ => rfl)
  have WS2 : Aside (Ws W1 W1.heap.size ob (W1.setCell ⟨ob, 0, none⟩ (.slice none 0 0)) (.slice none 0 0) []) := ⟨⟨C4.it.setCell 0 (.slice none 0 0), World.ownsRow_nil _ _ _ _, hK2, hK2.size⟩⟩
  clear hK2
  generalize W1.setCell ⟨ob, 0, none⟩ (.slice none 0 0) = W2 at WS2 ⊢
  obtain ⟨Bs, hBs⟩ : ∃ Bs, W1.heap.size = Bs := ⟨_, rfl⟩
  rw [hBs] at WS2
  have HBs : Aside (W1.heap.size ≤ Bs) := ⟨by omega⟩
  have HBs2 : Aside (w.heap.size ≤ Bs) := ⟨by have := K1.it.size; omega⟩
  clear hBs
  go_wp2_with fail
  go_loopw [6, 7] (fun dv iv wr => ∃ (j : Nat) (done : Bool) (vo : Value) (V : Ds), dv = .bool done ∧ iv = .int .i64 j ∧ j ≤ n ∧ Wi U ⟨dk, .slice uq ul uc, dr⟩ j done V ∧ Aside (Ws W1 Bs ob wr vo V)) (fun _ iv _ => n - natOfT iv)
  case atStart => exact ⟨0, false, _, [], rfl, rfl, Nat.zero_le _, .inl ⟨rfl, rfl, fun x hx => by simp at hx⟩, WS2⟩
  case round =>
    clear WS2
    obtain ⟨j, done, vo, V, rfl, rfl, hj, hW, WS⟩ := hrel
    have HW := Aside.mk hW
    have hVl : Aside (V.length + 1 + 1 ≤ 2147483648) := ⟨by have := hW.len; have := HN.it; omega⟩
    clear hW
    obtain ⟨oq, oc, hvo⟩ := owns_sl WS.it.r
    subst hvo
    obtain ⟨lv, hlv⟩ : ∃ lv, V.length = lv := ⟨_, rfl⟩
    rw [hlv] at WS
    clear hlv
    rcases Nat.eq_or_lt_of_le hj with rfl | hlt
    · have e0 : U.take j = U := List.take_of_length_le (by rw [HN.it]; exact Nat.le_refl _)
      have hbo : Aside (bx ≠ ob ∧ bx + 1 ≠ ob ∧ bx + 1 + 1 ≠ ob) := ⟨by have := HOB.it; omega⟩
      have FE : Aside (∀ W v2 V2, Ws W1 Bs ob W v2 V2 → Cells W (bx + 1 + 1) 28 [.slice none 0 0] ∧ W.cell? ⟨ob, 0, none⟩ = some v2) := ⟨fun W v2 V2 hs => ⟨C3.it.later hs.k (fun e => hbo.it.2.2 e), by rw [hs.c.cell]; rfl⟩⟩
      have FIN : Aside (∀ W q l c, Ws W1 Bs ob W (.slice q l c) (dset U ⟨dk, .slice uq ul uc, dr⟩) → RdD (give own w.heap.size 9) (W.setCell ⟨bx + 1 + 1, 0, none⟩ (.slice q l c)) (.slice q l c) (dset U ⟨dk, .slice uq ul uc, dr⟩) ∧ Keeps Nowhere w (W.setCell ⟨bx + 1 + 1, 0, none⟩ (.slice q l c))) := ⟨fun W q l c hs => by
        have K2 : Keeps (fun x => x = bx + 1 + 1) W (W.setCell ⟨bx + 1 + 1, 0, none⟩ (.slice q l c)) := (Keeps.refl _ _).setCell _ _ (fun _ => rfl)
        have KN : Keeps Nowhere w (W.setCell ⟨bx + 1 + 1, 0, none⟩ (.slice q l c)) := (K1.it.next hs.k (fun x hx hlt => by have := HOB.it; have := HBX.it; omega)).next K2 (fun x hx hlt => by have := HBX.it; omega)
        refine ⟨owns_rdD (own := own) (base := Bs) (owns_later hs.r K2 (fun x hx e => ?_)) rfl HBs2.it (fun x hx => ?_), KN⟩
        · have h1 := owns_base hs.r x hx
          have h2 := C3.it.lt
          have h3 := HBs.it
          omega
        · have s9 : Sn (fun _ => False) own w (give own w.heap.size 9) (W.setCell ⟨bx + 1 + 1, 0, none⟩ (.slice q l c)) := Sn.quiet KN 9
          rcases dset_mem hx with rfl | hx
          · have := HD.it.sn s9 (fun x => x)
            rw [HUL.it] at this
            exact this
          · exact (H.it.b x hx).sn s9 (fun x => x)⟩
      cases done with
      | true =>
        have hV : V = dset U ⟨dk, .slice uq ul uc, dr⟩ := by
          rcases HW.it with ⟨h, _⟩ | ⟨_, h, _⟩
          · cases h
          · rw [e0] at h; exact h
        rw [hV] at WS
        obtain ⟨c5, o0⟩ := FE.it wr _ _ WS.it
        have C5 := Aside.mk c5
        have x0 : wr.cell? ⟨bx + 1 + 1, 0, none⟩ = some (.slice none 0 0) := by rw [c5.cell]; rfl
        have x1 := c5.frozen 0
        have h0 : wr.cell? ⟨bx, 0, none⟩ = some (.slice a j c) := by rw [(C1.it.later WS.it.k (fun e => hbo.it.1 e)).cell]; rfl
        have FF := Aside.mk (FIN.it wr _ _ _ WS.it)
        clear c5 HW e0 hV
        go_wp2_with fail
        have y0 := (C5.it.setCell 0 (.slice oq lv oc)).cell 0
        refine bodyPost_ret (v := .agg #[.slice oq lv oc]) (by simp [results, Tryd.f42, go_sem, y0]) rfl ?_
        exact ⟨_, _, _, rfl, ⟨FF.it.1⟩, ⟨FF.it.2⟩⟩
      | false =>
        have hV : V ++ [⟨dk, .slice uq ul uc, dr⟩] = dset U ⟨dk, .slice uq ul uc, dr⟩ := by
          rcases HW.it with ⟨_, h, h2⟩ | ⟨h, _⟩
          · rw [e0] at h h2
            subst h
            have := dset_low (e := ⟨dk, .slice uq ul uc, dr⟩) h2 []
            rw [List.append_nil] at this
            rw [this]
            rfl
          · cases h
        have HV := Aside.mk hV
        obtain ⟨c5, o0⟩ := FE.it wr _ _ WS.it
        obtain ⟨h0, r0⟩ : wr.cell? ⟨bx, 0, none⟩ = some (.slice a j c) ∧ True := ⟨by rw [(C1.it.later WS.it.k (fun e => hbo.it.1 e)).cell]; rfl, trivial⟩
        have E2 := C2.it.later WS.it.k (fun e => hbo.it.2.1 e)
        have r0 : wr.cell? ⟨bx + 1, 0, none⟩ = some (.int .i64 dk) := by rw [E2.cell]; rfl
        have r1 : wr.cell? ⟨bx + 1, 1, none⟩ = some (.slice uq ul uc) := by rw [E2.cell]; rfl
        have r2 : wr.cell? ⟨bx + 1, 2, none⟩ = some (.int .i64 ((dr.rd : Nat) : Int)) := by rw [E2.cell]; rfl
        have r3 : wr.cell? ⟨bx + 1, 3, none⟩ = some (.bool dr.cl) := by rw [E2.cell]; rfl
        have r4 : wr.cell? ⟨bx + 1, 4, none⟩ = some (.bool dr.en) := by rw [E2.cell]; rfl
        obtain ⟨q7, c7, w7, run7, p1, p2, WS7⟩ := Ws.app (d := ⟨dk, .slice uq ul uc, dr⟩) WS HBs.it ⟨_, _, _, rfl⟩ (by have := hVl.it; omega) (.inl rfl)
        clear c5 HW e0 hV E2
        go_upto_region 13 with fail
        clear h0 r0 r1 r2 r3 r4 o0 p1 p2 run7
        generalize w7.setCell ⟨ob, 0, none⟩ (.slice q7 (V.length + 1) c7) = w8 at WS7 ⊢
        obtain ⟨c5, o0⟩ := FE.it w8 _ _ WS7.it
        have C5 := Aside.mk c5
        have x0 : w8.cell? ⟨bx + 1 + 1, 0, none⟩ = some (.slice none 0 0) := by rw [c5.cell]; rfl
        have x1 := c5.frozen 0
        rw [HV.it] at WS7
        have FF := Aside.mk (FIN.it w8 _ _ _ WS7.it)
        clear c5
        go_wp2_with fail
        have y0 := (C5.it.setCell 0 (.slice q7 (V.length + 1) c7)).cell 0
        refine bodyPost_ret (v := .agg #[.slice q7 (V.length + 1) c7]) (by simp [results, Tryd.f42, go_sem, y0]) rfl ?_
        exact ⟨_, _, _, rfl, ⟨FF.it.1⟩, ⟨FF.it.2⟩⟩
    · obtain ⟨y, hy⟩ : ∃ y, U[j]? = some y := ⟨_, List.getElem?_eq_getElem (by rw [HN.it]; exact hlt)⟩
      obtain ⟨g, rfl, _, hrow⟩ := HC.it j y hy
      have HROW := Aside.mk hrow
      have HY := Aside.mk hy
      obtain ⟨yq, yc, hyu⟩ := (H.it.b y (List.mem_of_getElem? hy)).sl
      obtain ⟨yk, yu, yr⟩ := y
      simp only at hyu
      subst hyu
      obtain ⟨yl, hyl⟩ : ∃ yl, yr.wr.length = yl := ⟨_, rfl⟩
      rw [hyl] at HROW HY
      have hgl : g < w.heap.size := World.block_lt_of_cell? w _ hrow.1
      have hbo : Aside (bx ≠ ob ∧ bx + 1 ≠ ob ∧ bx + 1 + 1 ≠ ob ∧ g ≠ ob) := ⟨by have := HOB.it; have := HBX.it; omega⟩
      have FC : Aside (∀ W v2 V2, Ws W1 Bs ob W v2 V2 → W.cell? ⟨bx, 0, none⟩ = some (.slice (some ⟨g, 0, none⟩) n c) ∧ (W.cell? ⟨bx + 1, 0, none⟩ = some (.int .i64 dk) ∧ W.cell? ⟨bx + 1, 1, none⟩ = some (.slice uq ul uc) ∧ W.cell? ⟨bx + 1, 2, none⟩ = some (.int .i64 ((dr.rd : Nat) : Int)) ∧ W.cell? ⟨bx + 1, 3, none⟩ = some (.bool dr.cl) ∧ W.cell? ⟨bx + 1, 4, none⟩ = some (.bool dr.en)) ∧ RowAt5 W g (j * 5) ⟨yk, .slice yq yl yc, yr⟩ ∧ W.cell? ⟨ob, 0, none⟩ = some v2) := ⟨fun W v2 V2 hs => by
        have E1 := C1.it.later hs.k (fun e => hbo.it.1 e)
        have E2 := C2.it.later hs.k (fun e => hbo.it.2.1 e)
        refine ⟨by rw [E1.cell]; rfl, ⟨by rw [E2.cell]; rfl, by rw [E2.cell]; rfl, by rw [E2.cell]; rfl, by rw [E2.cell]; rfl, by rw [E2.cell]; rfl⟩, ?_, by rw [hs.c.cell]; rfl⟩
        exact (HROW.it.later K1.it (fun x => x)).later hs.k (fun e => hbo.it.2.2.2 e)⟩
      clear hy hrow hyl hgl
      obtain ⟨h0, ⟨r0, r1, r2, r3, r4⟩, ⟨z0, z1, z2, z3, z4⟩, o0⟩ := FC.it wr _ _ WS.it
      simp only at z0 z1 z2 z3 z4
      go_upto_region 6 with fail
      go_cut [6, 28] (fun dv t wx => dv = .bool done ∧ t = .bool (!done && decide (dk ≤ yk)) ∧ Aside (Keeps Nowhere wr wx))
      case first =>
        have t2 : (j : Int) < (n : Int) := by omega
        cases done with
        | true =>
          go_quiet (fail)
          go_wp2_with fail
          go_meet
          exact ⟨rfl, rfl, ⟨(Keeps.refl _ _).drewN _⟩⟩
        | false =>
          go_quiet (fail)
          go_wp2_with fail
          go_meet
          exact ⟨rfl, by simp, ⟨(Keeps.refl _ _).drewN _⟩⟩
      case rest =>
        obtain ⟨rfl, rfl, KC⟩ := hcut
        have WC := Aside.mk (WS.it.quiet KC.it)
        clear h0 r0 r1 r2 r3 r4 z0 z1 z2 z3 z4 o0 WS
        have t2 : (j : Int) < (n : Int) := by omega
        cases done with
        | true =>
          have e0 : (!true && decide (dk ≤ yk)) = false := rfl
          rw [e0]
          have WS2 := WC
          have HW2 : Aside (Wm U ⟨dk, .slice uq ul uc, dr⟩ j ⟨yk, .slice yq yl yc, yr⟩ true V ∧ V.length + 1 ≤ 2147483648) := ⟨HW.it.done HU.it HY.it, by have := hVl.it; omega⟩
          obtain ⟨h0, ⟨r0, r1, r2, r3, r4⟩, ⟨z0, z1, z2, z3, z4⟩, o0⟩ := FC.it wc _ _ WS2.it
          simp only at z0 z1 z2 z3 z4
          have NX := Aside.mk (HW2.it.1.next HY.it)
          go_upto_region 9 with fail
          go_cut [43] (fun t wx => t = .bool (yk != dk) ∧ Aside (Keeps Nowhere wc wx))
          case first =>
            go_quiet (fail)
            go_wp2_with fail
            go_meet
            exact ⟨rfl, ⟨(Keeps.refl _ _).drewN _⟩⟩
          case rest =>
            obtain ⟨rfl, KE⟩ := hcut
            have WE := Aside.mk (WS2.it.quiet KE.it)
            clear h0 r0 r1 r2 r3 r4 z0 z1 z2 z3 z4 o0 WS2
            by_cases heq : yk = dk
            · have e0 : (yk != dk) = false := by simp [heq]
              rw [e0]
              simp only [heq, if_true] at NX
              go_wp2_with fail
              go_roundw
              case rel => exact ⟨j + 1, true, _, V, rfl, by go_num, by omega, NX.it, WE⟩
              case measure => simp [natOfT]; omega
            · have e0 : (yk != dk) = true := by simp [heq]
              rw [e0]
              simp only [heq, if_false] at NX
              obtain ⟨h0, _, ⟨z0, z1, z2, z3, z4⟩, o0⟩ := FC.it _ _ _ WE.it
              simp only at z0 z1 z2 z3 z4
              obtain ⟨h0', _, ⟨z0', z1', z2', z3', z4'⟩, o0'⟩ := FC.it _ _ _ (WE.it.quiet ((Keeps.refl _ _).alloc (.cells #[.int .i64 yk, .slice yq yl yc, .int .i64 ((yr.rd : Nat) : Int), .bool yr.cl, .bool yr.en] 59)))
              simp only at z0' z1' z2' z3' z4'
              obtain ⟨q9, c9, w9, run9, p1, p2, WS9⟩ := Ws.app (d := ⟨yk, .slice yq yl yc, yr⟩) WE HBs.it ⟨_, _, _, rfl⟩ HW2.it.2 (.inr rfl)
              have run9' : ∀ ty, (Builtin.append_ #[26, 26] ty #[.slice oq lv oc, .slice (some ⟨wc.heap.size, 0, none⟩) 1 1]).run Tryd.prog (wc.alloc (.cells #[.int .i64 yk, .slice yq yl yc, .int .i64 ((yr.rd : Nat) : Int), .bool yr.cl, .bool yr.en] 59)).drew = .ok (.slice q9 (V.length + 1) c9) w9 := run9
              clear run9
              go_upto_region 10 with fail
              go_region
              go_wp2_with fail
              go_roundw
              case rel => exact ⟨j + 1, true, _, _, rfl, by go_num, by omega, NX.it, WS9⟩
              case measure => simp [natOfT]; omega
        | false =>
          by_cases hge : dk ≤ yk
          · have e0 : (!false && decide (dk ≤ yk)) = true := by simp [hge]
            obtain ⟨h0, ⟨r0, r1, r2, r3, r4⟩, _, o0⟩ := FC.it wc _ _ WC.it
            obtain ⟨q7, c7, w7, run7, p1, p2, WS7⟩ := Ws.app (d := ⟨dk, .slice uq ul uc, dr⟩) WC HBs.it ⟨_, _, _, rfl⟩ (by have := hVl.it; omega) (.inl rfl)
            have HW2 : Aside (Wm U ⟨dk, .slice uq ul uc, dr⟩ j ⟨yk, .slice yq yl yc, yr⟩ true (V ++ [⟨dk, .slice uq ul uc, dr⟩]) ∧ (V ++ [(⟨dk, .slice uq ul uc, dr⟩ : Dr)]).length + 1 ≤ 2147483648) := ⟨HW.it.put HY.it hge, by have := hVl.it; simp; omega⟩
            rw [e0]
            go_upto_region 9 with fail
            clear h0 r0 r1 r2 r3 r4 o0 run7 p1 p2
            have WS2 := WS7
            generalize w7.setCell ⟨ob, 0, none⟩ (.slice q7 (V.length + 1) c7) = wq at WS2 ⊢
            clear WS7
            generalize V ++ [(⟨dk, .slice uq ul uc, dr⟩ : Dr)] = V2 at HW2 WS2
            obtain ⟨h0, ⟨r0, r1, r2, r3, r4⟩, ⟨z0, z1, z2, z3, z4⟩, o0⟩ := FC.it wq _ _ WS2.it
            simp only at z0 z1 z2 z3 z4
            have NX := Aside.mk (HW2.it.1.next HY.it)
            go_upto_region 9 with fail
            go_cut [43] (fun t wx => t = .bool (yk != dk) ∧ Aside (Keeps Nowhere wq wx))
            case first =>
              go_quiet (fail)
              go_wp2_with fail
              go_meet
              exact ⟨rfl, ⟨(Keeps.refl _ _).drewN _⟩⟩
            case rest =>
              obtain ⟨rfl, KE⟩ := hcut
              have WE := Aside.mk (WS2.it.quiet KE.it)
              clear h0 r0 r1 r2 r3 r4 z0 z1 z2 z3 z4 o0 WS2
              by_cases heq : yk = dk
              · have e0 : (yk != dk) = false := by simp [heq]
                rw [e0]
                simp only [heq, if_true] at NX
                go_wp2_with fail
                go_roundw
                case rel => exact ⟨j + 1, true, _, V2, rfl, by go_num, by omega, NX.it, WE⟩
                case measure => simp [natOfT]; omega
              · have e0 : (yk != dk) = true := by simp [heq]
                rw [e0]
                simp only [heq, if_false] at NX
                obtain ⟨h0, _, ⟨z0, z1, z2, z3, z4⟩, o0⟩ := FC.it _ _ _ WE.it
                simp only at z0 z1 z2 z3 z4
                obtain ⟨h0', _, ⟨z0', z1', z2', z3', z4'⟩, o0'⟩ := FC.it _ _ _ (WE.it.quiet ((Keeps.refl _ _).alloc (.cells #[.int .i64 yk, .slice yq yl yc, .int .i64 ((yr.rd : Nat) : Int), .bool yr.cl, .bool yr.en] 59)))
                simp only at z0' z1' z2' z3' z4'
                obtain ⟨q9, c9, w9, run9, p1, p2, WS9⟩ := Ws.app (d := ⟨yk, .slice yq yl yc, yr⟩) WE HBs.it ⟨_, _, _, rfl⟩ HW2.it.2 (.inr rfl)
                have run9' : ∀ ty, (Builtin.append_ #[26, 26] ty #[.slice q7 (V.length + 1) c7, .slice (some ⟨wc.heap.size, 0, none⟩) 1 1]).run Tryd.prog (wc.alloc (.cells #[.int .i64 yk, .slice yq yl yc, .int .i64 ((yr.rd : Nat) : Int), .bool yr.cl, .bool yr.en] 59)).drew = .ok (.slice q9 (V2.length + 1) c9) w9 := run9
                clear run9
                go_upto_region 10 with fail
                go_region
                go_wp2_with fail
                go_roundw
                case rel => exact ⟨j + 1, true, _, _, rfl, by go_num, by omega, NX.it, WS9⟩
                case measure => simp [natOfT]; omega
          · have e0 : (!false && decide (dk ≤ yk)) = false := by simp [hge]
            have WS2 := WC
            have HW2 : Aside (Wm U ⟨dk, .slice uq ul uc, dr⟩ j ⟨yk, .slice yq yl yc, yr⟩ false V ∧ V.length + 1 ≤ 2147483648) := ⟨HW.it.low (by simp only; omega), by have := hVl.it; omega⟩
            rw [e0]
            obtain ⟨h0, ⟨r0, r1, r2, r3, r4⟩, ⟨z0, z1, z2, z3, z4⟩, o0⟩ := FC.it wc _ _ WS2.it
            simp only at z0 z1 z2 z3 z4
            have NX := Aside.mk (HW2.it.1.next HY.it)
            go_upto_region 9 with fail
            go_cut [43] (fun t wx => t = .bool (yk != dk) ∧ Aside (Keeps Nowhere wc wx))
            case first =>
              go_quiet (fail)
              go_wp2_with fail
              go_meet
              exact ⟨rfl, ⟨(Keeps.refl _ _).drewN _⟩⟩
            case rest =>
              obtain ⟨rfl, KE⟩ := hcut
              have WE := Aside.mk (WS2.it.quiet KE.it)
              clear h0 r0 r1 r2 r3 r4 z0 z1 z2 z3 z4 o0 WS2
              by_cases heq : yk = dk
              · have e0 : (yk != dk) = false := by simp [heq]
                rw [e0]
                simp only [heq, if_true] at NX
                go_wp2_with fail
                go_roundw
                case rel => exact ⟨j + 1, false, _, V, rfl, by go_num, by omega, NX.it, WE⟩
                case measure => simp [natOfT]; omega
              · have e0 : (yk != dk) = true := by simp [heq]
                rw [e0]
                simp only [heq, if_false] at NX
                obtain ⟨h0, _, ⟨z0, z1, z2, z3, z4⟩, o0⟩ := FC.it _ _ _ WE.it
                simp only at z0 z1 z2 z3 z4
                obtain ⟨h0', _, ⟨z0', z1', z2', z3', z4'⟩, o0'⟩ := FC.it _ _ _ (WE.it.quiet ((Keeps.refl _ _).alloc (.cells #[.int .i64 yk, .slice yq yl yc, .int .i64 ((yr.rd : Nat) : Int), .bool yr.cl, .bool yr.en] 59)))
                simp only at z0' z1' z2' z3' z4'
                obtain ⟨q9, c9, w9, run9, p1, p2, WS9⟩ := Ws.app (d := ⟨yk, .slice yq yl yc, yr⟩) WE HBs.it ⟨_, _, _, rfl⟩ HW2.it.2 (.inr rfl)
                have run9' : ∀ ty, (Builtin.append_ #[26, 26] ty #[.slice oq lv oc, .slice (some ⟨wc.heap.size, 0, none⟩) 1 1]).run Tryd.prog (wc.alloc (.cells #[.int .i64 yk, .slice yq yl yc, .int .i64 ((yr.rd : Nat) : Int), .bool yr.cl, .bool yr.en] 59)).drew = .ok (.slice q9 (V.length + 1) c9) w9 := run9
                clear run9
                go_upto_region 10 with fail
                go_region
                go_wp2_with fail
                go_roundw
                case rel => exact ⟨j + 1, false, _, _, rfl, by go_num, by omega, NX.it, WS9⟩
                case measure => simp [natOfT]; omega
end Go.Proofs.YteojdangidnnkaaDoor
