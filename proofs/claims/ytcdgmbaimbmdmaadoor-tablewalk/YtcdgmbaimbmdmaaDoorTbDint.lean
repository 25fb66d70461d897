/-
  package table at int: IDs of a nil table; All
-/
import Derived.Test.YtcdgmbaimbmdmaaDoorTbBint
import Derived.MapKept
import Derived.BigRegion
import Derived.Deep.RegionHeldLaw
namespace Go.Proofs.YtcdgmbaimbmdmaaDoor.Tbint
open Go.RowKit Go.Maps

variable {own own' : Nat → Nat} {i p k : Nat} {w w' : World} {room : Int} {L : Tl Int} {I : Nat → Prop} {A : Nat → Addr}

set_option maxRecDepth 100000 in
theorem ids_nil (w : World) : Calls Tryd.prog 14 #[.pointer none] w fun e w' => ∃ g cap, e = .returned (.slice (some ⟨g, 0, none⟩) 0 cap) ∧ w.heap.size ≤ g ∧ Aside (w'.ownsRow w.heap.size 36 1 (.slice (some ⟨g, 0, none⟩) 0 cap) 0 []) ∧ Aside (Keeps Nowhere w w') := by
  have hln := len_nil w
  obtain ⟨i0, hi, hz0, hz1, hz2⟩ := info_parts u32info
  go_enter Tryd.func14, Tryd.ntmps14
  go_wp2_with (first
    | (go_at_call 19; refine hln.mono ?_; rintro e w1 ⟨rfl, hw1⟩; subst hw1)
    | (at_make; refine wpList_make_own _ rfl _ _ 51 rfl w1.heap.size 36 i0 (.int .u32 0) 1 Tryd.underlying51 hi hz0 hz1 _ _ _ 0 rfl rfl rfl (by omega) (Nat.zero_le _) (Nat.le_refl _) ?_
       intro w2 hrow2 hg2
       have hh := held_nil w2)
    | (go_at_call 25; refine hh.mono ?_; rintro e w3 ⟨rfl, hw3⟩; subst hw3
       have hrg := run_range_nilMap (P := Tryd.prog) w3 53 36 3 Tryd.underlying53
       have hnx : ∀ ty, (Instr.next (.pointer (some ⟨w3.heap.size, 0, none⟩)) false ty).run Tryd.prog (w3.alloc (.mapIter none 0 #[] 0)) = _ := fun ty => run_next_nilMap _ ty 0 0 #[])
    | go_in)
  refine wp_loop_rounds 1 ?_
  rw [rounds_succ]
  have hrow3 := hrow2.alloc (.mapIter none 0 #[] 0)
  have K3 : Aside (Keeps Nowhere w1 (w3.alloc (.mapIter none 0 #[] 0))) := ⟨(Keeps.mk hg2.os hg2.tape hg2.output hg2.size (fun k hk _ => hg2.block k hk (fun e => by cases e))).alloc _⟩
  have CS := Aside.mk (sort32 w1.heap.size 0 [] _ (owns_any hrow3) (by decide))
  clear hrow2 hrow3
  go_wp2_with (go_at_call 28; refine CS.it.mono ?_; rintro e w6 ⟨rfl, X⟩)
  go_ret
  have e0 : ([] : List Nat).mergeSort (fun x y => decide (x ≤ y)) = [] := by simp
  refine ⟨_, _, rfl, Nat.le_refl _, ⟨?_⟩, ⟨K3.it.next X.it.2 (fun k e hlt => by omega)⟩⟩
  have r := X.it.1
  rw [e0] at r
  exact owns_rebase r (Nat.le_refl _)

theorem rows_ne {w : World} {b1 b2 e1 e2 g1 g2 n1 n2 c1 c2 : Nat} {xs ys : List Value} (h : w.ownsRow b1 e1 1 (.slice (some ⟨g1, 0, none⟩) n1 c1) n1 xs) (h' : w.ownsRow b2 e2 1 (.slice (some ⟨g2, 0, none⟩) n2 c2) n2 ys) (hne : e1 ≠ e2) : g1 ≠ g2 := by
  intro e
  subst e
  rcases h.2 with ⟨h, _⟩ | ⟨g, c, cur, h, _, hb, _⟩
  · cases h
  cases h
  rcases h'.2 with ⟨h', _⟩ | ⟨g, c, cur', h', _, hb', _⟩
  · cases h'
  cases h'
  rw [hb] at hb'
  simp at hb'
  exact hne hb'.2

/-- what All answers: a walk over what stood -/
structure WalkT (n₀ : Nat) (w : World) (bi bs : Nat) (L : Tl Int) : Prop where
  it : ∃ vi vs, n₀ ≤ bi ∧ n₀ ≤ bs ∧ w.cell? ⟨bi, 0, none⟩ = some vi ∧ w.cell? ⟨bs, 0, none⟩ = some vs ∧ w.ownsRow n₀ 36 1 vi L.length ((ks L).map e32) ∧ w.ownsRow n₀ 3 1 vs L.length (L.map (fun x => vv x.2))

theorem einfo : (Tryd.prog.info? 3).map (fun i => (i.zero, i.size, i.bytes)) = some (some (.int .i64 0), 1, 8) := by kernel_rfl
set_option maxRecDepth 100000 in
set_option maxHeartbeats 1000000 in
theorem all_of (x0 : Value) (hu : Up L) (hids : Calls Tryd.prog 14 #[x0] w fun e w' => ∃ g cap, e = .returned (.slice (some ⟨g, 0, none⟩) L.length cap) ∧ w.heap.size ≤ g ∧ Aside (w'.ownsRow w.heap.size 36 1 (.slice (some ⟨g, 0, none⟩) L.length cap) L.length ((ks L).map e32)) ∧ Aside (Keeps Nowhere w w'))
    (GET : Aside (∀ W, Keeps Nowhere w W → ∀ y ∈ L, Calls Tryd.prog 11 #[x0, .int .u32 (y.1 : Nat)] W fun e w' => e = .returned (.tuple #[.int .i64 y.2, .bool true]) ∧ w' = W)) :
    Calls Tryd.prog 8 #[x0] w fun e w' => ∃ bi bs, e = .returned (.func (.func 24) #[] #[ptr bi, ptr bs]) ∧ Aside (WalkT w.heap.size w' bi bs L) ∧ Aside (Keeps Nowhere w w') := by
  have LU := up_len hu
  obtain ⟨i0, hi, hz0, hz1, hz2⟩ := info_parts einfo
  have hmx : L.length ≤ maxLen := Nat.le_trans LU (by decide)
  obtain ⟨n, hn⟩ : ∃ n, L.length = n := ⟨_, rfl⟩
  rw [hn] at hids LU hmx
  have HN := Aside.mk hn
  clear hu hn
  go_enter Tryd.func8, Tryd.ntmps8
  go_upto_region 3 with (first
    | (go_at_call 14; refine hids.mono ?_; rintro e w1 ⟨g, cap, rfl, hgw, R1, K1⟩)
    | (at_make; refine wpList_make_full _ rfl _ _ 64 rfl w.heap.size 3 i0 (.int .i64 0) 1 Tryd.underlying64 hi hz0 hz1 _ _ _ _ n rfl rfl rfl rfl (by rw [hz2]; omega) hmx (by have := K1.it.size; simp; omega) ?_
       intro w2 hrow2 hg2)
    | go_in)
  rw [World.size_alloc] at hrow2
  have KA : Keeps Nowhere w1 (w1.alloc (.cells #[.slice (some ⟨g, 0, none⟩) n cap] 51)) := (Keeps.refl _ _).alloc _
  have KB : Keeps Nowhere (w1.alloc (.cells #[.slice (some ⟨g, 0, none⟩) n cap] 51)) w2 := ⟨hg2.os, hg2.tape, hg2.output, hg2.size, fun k hk _ => hg2.block k hk (fun e => by cases e)⟩
  have KC : Keeps Nowhere w2 (w2.alloc (.cells #[.slice (some ⟨w1.heap.size + 1, 0, none⟩) n n] 64)) := (Keeps.refl _ _).alloc _
  have k12 : w1.heap.size + 1 ≤ w2.heap.size := by have := hg2.size; rwa [World.size_alloc] at this
  have c1 : Cells (w2.alloc (.cells #[.slice (some ⟨w1.heap.size + 1, 0, none⟩) n n] 64)) w1.heap.size 51 [.slice (some ⟨g, 0, none⟩) n cap] := ((Cells.new w1 _ _).later KB (fun x => x)).later KC (fun x => x)
  have c2 : Cells (w2.alloc (.cells #[.slice (some ⟨w1.heap.size + 1, 0, none⟩) n n] 64)) w2.heap.size 64 [.slice (some ⟨w1.heap.size + 1, 0, none⟩) n n] := Cells.new w2 _ _
  have r1 := owns_later (owns_later (owns_later R1.it KA (fun _ _ x => x)) KB (fun _ _ x => x)) KC (fun _ _ x => x)
  have r2 := owns_later hrow2 KC (fun _ _ x => x)
  have K3 := Aside.mk (((K1.it.trans KA).trans KB).trans KC)
  have hz : ((madeCells (Value.cells (.int .i64 0)) (n * 1)).toList).length = n := by simpa using r2.1
  have hw1 := K1.it.size
  generalize (w2.alloc (.cells #[.slice (some ⟨w1.heap.size + 1, 0, none⟩) n n] 64)) = W3 at c1 c2 r1 r2 K3 ⊢
  generalize (madeCells (Value.cells (.int .i64 0)) (n * 1)).toList = zs at r2 hz
  obtain ⟨bs, hbs⟩ : ∃ bs, w2.heap.size = bs := ⟨_, rfl⟩
  obtain ⟨gs, hgs⟩ : ∃ gs, w1.heap.size + 1 = gs := ⟨_, rfl⟩
  obtain ⟨bi, hbi⟩ : ∃ bi, w1.heap.size = bi := ⟨_, rfl⟩
  have hgs2 : w.heap.size ≤ gs := by omega
  have hbi2 : w.heap.size ≤ bi := by omega
  have hbs2 : w.heap.size ≤ bs := by omega
  have hd : ¬ bi = gs ∧ ¬ bs = gs ∧ ¬ bs = bi := by
    refine ⟨by omega, fun e => ?_, by omega⟩
    have := owns_ne r2 c2 (by decide)
    rw [hgs, hbs, e] at this
    exact this rfl
  rw [hbs] at c2 ⊢
  rw [hgs] at c2 r2
  rw [hbi] at c1 ⊢
  obtain ⟨hd1, hd2, hd3⟩ := hd
  have C1 := Aside.mk c1
  have C2 := Aside.mk c2
  have RI := Aside.mk r1
  have RS := Aside.mk r2
  have y1 : W3.cell? ⟨bi, 0, none⟩ = some (.slice (some ⟨g, 0, none⟩) n cap) := by rw [c1.cell]; rfl
  clear KA KB KC hg2 hrow2 R1 K1 k12 hw1 hbs hgs hbi c1 c2 r1 r2
  have hcap : n ≤ cap := by
    rcases RI.it.2 with ⟨h, _⟩ | ⟨g', cap', cur, h, _, _, h1, _⟩
    · cases h
    · cases h; exact h1
  go_wp2_with fail
  go_loopw [14] (fun v wr => ∃ (j : Nat) (xs : List Value), v = .int .i64 j ∧ j ≤ n ∧ Keeps (fun k => k = gs) W3 wr ∧ wr.ownsRow w.heap.size 3 1 (.slice (some ⟨gs, 0, none⟩) n n) n xs ∧ ∀ m, m < j → xs[m]? = (L.map (fun x => vv x.2))[m]?) (fun v _ => n - natOf v)
  case atStart => exact ⟨0, zs, rfl, Nat.zero_le _, Keeps.refl _ _, RS.it, fun m hm => by omega⟩
  case round =>
    obtain ⟨j, xs, rfl, hj, hk, hr, hx⟩ := hrel
    rcases Nat.eq_or_lt_of_le hj with rfl | hlt
    · have HX := Aside.mk hx
      have HK := Aside.mk hk
      have HR := Aside.mk hr
      clear hx hk hr
      go_wp2_with fail
      go_ret
      refine ⟨bi, bs, rfl, ⟨⟨.slice (some ⟨g, 0, none⟩) j cap, .slice (some ⟨gs, 0, none⟩) j j, hbi2, hbs2, ?_, ?_, ?_, ?_⟩⟩, ⟨K3.it.next HK.it (fun k e hlt => by omega)⟩⟩
      · rw [(C1.it.later HK.it hd1).cell]; rfl
      · rw [(C2.it.later HK.it hd2).cell]; rfl
      · rw [HN.it]; exact owns_later RI.it HK.it (fun b e e' => by cases e; exact rows_ne RI.it RS.it (by decide) e')
      · rw [HN.it]
        have e : xs = L.map (fun x => vv x.2) := by
          apply List.ext_getElem?
          intro m
          rcases Nat.lt_or_ge m j with hm | hm
          · exact HX.it m hm
          · rw [List.getElem?_eq_none (by have := HR.it.1; omega), List.getElem?_eq_none (by rw [List.length_map, HN.it]; exact hm)]
        rw [← e]
        exact HR.it
    · have hlq : j < L.length := by rw [HN.it]; exact hlt
      obtain ⟨x, hLx⟩ : ∃ x, L[j]? = some x := ⟨_, List.getElem?_eq_getElem hlq⟩
      have KW : Keeps Nowhere w wr := K3.it.next hk (fun k e hlt => by omega)
      have GG : Aside (∀ W, Keeps Nowhere wr W → Calls Tryd.prog 11 #[x0, .int .u32 (x.1 : Nat)] W fun e w' => e = .returned (.tuple #[.int .i64 x.2, .bool true]) ∧ w' = W) := ⟨fun W hW => GET.it W (KW.trans hW) x (List.mem_of_getElem? hLx)⟩
      have z1 : wr.cell? ⟨g, j, none⟩ = some (.int .u32 (x.1 : Nat)) := by
        have r := owns_later RI.it hk (fun b e e' => by cases e; exact rows_ne RI.it RS.it (by decide) e')
        have := r.cells rfl j (e32 x.1) (by rw [List.getElem?_map]; unfold ks; rw [List.getElem?_map, hLx]; rfl)
        rwa [add_none, Nat.zero_add] at this
      have z2 : wr.cell? ⟨bs, 0, none⟩ = some (.slice (some ⟨gs, 0, none⟩) n n) := by rw [(C2.it.later hk hd2).cell]; rfl
      obtain ⟨u, hu⟩ : ∃ u, xs[j]? = some u := ⟨_, List.getElem?_eq_getElem (by have := hr.1; omega)⟩
      have z3 : wr.cell? ⟨gs, j, none⟩ = some u := by
        have := hr.cells rfl j u hu
        rwa [add_none, Nat.zero_add] at this
      have z4 : wr.frozen? ⟨gs, j, none⟩ = false := owns_frozen hr j
      have HX := Aside.mk hx
      have HK := Aside.mk hk
      have HR := Aside.mk hr
      have HLX := Aside.mk hLx
      clear hx hk hr hLx hu KW y1
      go_upto_region 6 with fail
      go_region_with (first | (go_at_call 11; refine (GG.it _ (by first | exact Keeps.refl _ _ | exact (Keeps.refl _ _).drew | exact (Keeps.refl _ _).drewN _)).mono ?_; rintro e w' ⟨rfl, rfl⟩))
      all_goals
        go_wp2_with fail
        go_roundw
        case rel =>
          refine ⟨j + 1, xs.set j (.int .i64 x.2), by go_num, by omega, (HK.it.setCell _ _ (fun _ => rfl)).drew, ?_, fun m hm => ?_⟩
          · exact owns_later (owns_setCell HR.it j (by omega) (.int .i64 x.2)) (S := Nowhere) ((Keeps.refl _ _).drew) (fun _ _ x => x)
          · rcases Nat.eq_or_lt_of_le (Nat.lt_succ_iff.1 hm) with rfl | hm'
            · rw [List.getElem?_set_self (by have := HR.it.1; omega), List.getElem?_map, HLX.it]; rfl
            · rw [List.getElem?_set_ne (by omega)]; exact HX.it m hm'
        case measure => simp [natOf]; omega
theorem all_at (h : TbO own i w p room L) : Calls Tryd.prog 8 #[ptr p] w fun e w' => ∃ bi bs, e = .returned (.func (.func 24) #[] #[ptr bi, ptr bs]) ∧ Aside (WalkT w.heap.size w' bi bs L) ∧ Aside (Keeps Nowhere w w') :=
  all_of (ptr p) h.up (ids_at h) ⟨fun W hW y hy => by
    have := get_at (h.quiet hW) (h.up.b y hy)
    rw [tlook_mem h.up hy] at this
    exact this⟩
theorem all_nil (w : World) : Calls Tryd.prog 8 #[.pointer none] w fun e w' => ∃ bi bs, e = .returned (.func (.func 24) #[] #[ptr bi, ptr bs]) ∧ Aside (WalkT w.heap.size w' bi bs []) ∧ Aside (Keeps Nowhere w w') :=
  all_of (.pointer none) Up.nil (ids_nil w) ⟨fun W hW y hy => by cases hy⟩
end Go.Proofs.YtcdgmbaimbmdmaaDoor.Tbint
