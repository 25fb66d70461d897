/-
  the document's pipe: Put
-/
import Derived.Test.YtpmmjekaefemeaaDoorPqB
namespace Go.Proofs.YtpmmjekaefemeaaDoor
open Go.RowKit

section
variable {own own' own1 : Nat → Nat} {w w' w1 W : World} {r b ALL : List Int} {v : Value} {G : Nat} {cut : Bool}

theorem Rd.get {a : Option Addr} {N c k : Nat} {x : Int} (h : Rd w (.slice a N c) r) (hx : r[k]? = some x) : ∃ g o, a = some ⟨g, o, none⟩ ∧ w.cell? ⟨g, o + k, none⟩ = some (.int .u8 x) := by
  have hn : r ≠ [] := fun e => by rw [e] at hx; simp at hx
  obtain ⟨g, o, c', e, _, hc⟩ := h.at hn
  injection e with e1 e2 e3
  exact ⟨g, o, e1, hc k _ (by simp [bv, hx])⟩
theorem take_more (r : List Int) (k : Nat) (x : Int) (hx : r[k]? = some x) : r.take (k + 1) = r.take k ++ [x] := by rw [List.take_add_one, hx]; rfl
theorem dput_cut (v : Value) (x : Value) (hv : ∃ a c, v = .slice a ALL.length c) :
    Calls Tryd.prog 19 #[dz v G true, x] w fun e w' => e = .returned (.tuple #[dz v G true, .int .i64 0, .int .i64 27]) ∧ Aside (Keeps Nowhere w w') := by
  have X := Aside.mk (Dz.start w v G true)
  obtain ⟨a, c, rfl⟩ := hv
  obtain ⟨N, hN⟩ : ∃ N, ALL.length = N := ⟨_, rfl⟩
  rw [hN] at X ⊢
  obtain ⟨bx, hbx⟩ : ∃ bx, w.heap.size = bx := ⟨_, rfl⟩
  obtain ⟨W1, hW1⟩ : ∃ W1, ((w.alloc (dzc (.slice a N c) G true)).alloc (dzc (.slice none 0 0) 0 false)) = W1 := ⟨_, rfl⟩
  rw [hW1, hbx] at X
  clear hN
  go_enter Tryd.func19, Tryd.ntmps19
  go_upto_region 1 with fail
  clear hW1 hbx
  obtain ⟨d0, d1, d2, e0, e1, e2, f0, f1, f2, g0, g1, g2⟩ := X.it.cells
  go_wp2_with fail
  obtain ⟨F, hF, q0, q1, q2, KF, _⟩ := X.it.fin (w1 := W1) (Keeps.refl _ _) X.it.c1
  rw [← hF]
  refine bodyPost_ret (v := .tuple #[dz (.slice a N c) G true, .int .i64 0, .int .i64 27]) (by simp [results, Tryd.results19, go_sem, q0, q1, q2]) rfl ?_
  exact ⟨rfl, KF⟩
set_option maxHeartbeats 2000000 in
theorem dput (v x : Value) (hv : Rd w v ALL) (hx : Rd w x b) (hm : ALL.length + b.length ≤ 2199023255551) :
    Calls Tryd.prog 19 #[dz v G false, x] w fun e w' => ∃ a c, e = .returned (.tuple #[dz (.slice a (ALL ++ b).length c) G false, .int .i64 b.length, .int .i64 0]) ∧ Aside (Nw w w' (.slice a (ALL ++ b).length c) (ALL ++ b)) := by
  have X := Aside.mk (Dz.start w v G false)
  have HV := Aside.mk hv
  have HX := Aside.mk hx
  obtain ⟨a, c, rfl⟩ := hv.shape
  obtain ⟨a2, c2, rfl⟩ := hx.shape
  obtain ⟨N, hN⟩ : ∃ N, ALL.length = N := ⟨_, rfl⟩
  obtain ⟨M, hM⟩ : ∃ M, b.length = M := ⟨_, rfl⟩
  obtain ⟨NM, hNM⟩ : ∃ NM, (ALL ++ b).length = NM := ⟨_, rfl⟩
  have HN := Aside.mk hN
  have HM := Aside.mk hM
  have HNM := Aside.mk hNM
  rw [hN] at X HV hm
  rw [hM] at HX hm
  rw [hN, hM, hNM]
  obtain ⟨bx, hbx⟩ : ∃ bx, w.heap.size = bx := ⟨_, rfl⟩
  obtain ⟨W1, hW1⟩ : ∃ W1, ((w.alloc (dzc (.slice a N c) G false)).alloc (dzc (.slice none 0 0) 0 false)) = W1 := ⟨_, rfl⟩
  rw [hW1, hbx] at X
  have HM2 := Aside.mk hm
  clear hN hM hNM hv hx
  go_enter Tryd.func19, Tryd.ntmps19
  go_upto_region 1 with fail
  clear hW1 hbx
  obtain ⟨d0, d1, d2, _⟩ := X.it.cells
  go_upto_region 4 with fail
  go_wp2_with fail
  go_loopw [7, 8] (fun y i wr => ∃ (k : Nat) (q : Option Addr) (l c : Nat), i = .int .i64 k ∧ k ≤ N ∧ y = .slice q l c ∧ Aside (Nw W1 wr (.slice q l c) (ALL.take k))) (fun _ i _ => N - natOf i)
  case atStart => exact ⟨0, _, _, _, rfl, Nat.zero_le _, rfl, ⟨⟨World.ownsRow_nil _ _ _ _, Keeps.refl _ _⟩⟩⟩
  case round =>
    obtain ⟨k, q, l, cc, rfl, hk, rfl, Z⟩ := hrel
    clear d0 d1 d2
    have X2 := Aside.mk (X.it.quiet Z.it.k)
    obtain ⟨d0, d1, d2, _⟩ := X2.it.cells
    rcases Nat.eq_or_lt_of_le hk with rfl | hlt
    · have e1 : Aside (ALL.take k = ALL) := ⟨List.take_of_length_le (by rw [HN.it]; exact Nat.le_refl _)⟩
      rw [e1.it] at Z
      clear e1 hk
      go_wp2_with fail
      go_loopw [7, 9] (fun y i wr => ∃ (j : Nat) (q : Option Addr) (l c : Nat), i = .int .i64 j ∧ j ≤ M ∧ y = .slice q l c ∧ Aside (Nw W1 wr (.slice q l c) (ALL ++ b.take j))) (fun _ i _ => M - natOf i)
      case atStart => exact ⟨0, _, _, _, rfl, Nat.zero_le _, rfl, ⟨by simpa using Z.it⟩⟩
      case round =>
        obtain ⟨j, q3, l3, c3, rfl, hj, rfl, Y⟩ := hrel
        clear d0 d1 d2 X2 Z
        have X3 := Aside.mk (X.it.quiet Y.it.k)
        obtain ⟨d0, d1, d2, e0, e1, e2, f0, f1, f2, g0, g1, g2⟩ := X3.it.cells
        rcases Nat.eq_or_lt_of_le hj with rfl | hlt
        · have e1' : Aside (b.take j = b) := ⟨List.take_of_length_le (by rw [HM.it]; exact Nat.le_refl _)⟩
          rw [e1'.it] at Y
          obtain ⟨q4, c4, hs⟩ := OwnB.shape Y.it.row
          rw [HNM.it] at hs
          injection hs with s1 s2 s3
          subst s1 s2 s3
          have C1 := Aside.mk (X3.it.c1.setCell 0 (.slice q3 l3 c3))
          go_wp2_with fail
          obtain ⟨F, hF, z0, z1, z2, KF, KW⟩ := X3.it.fin (w1 := wr.setCell ⟨bx, 0, none⟩ (.slice q3 l3 c3)) ((Keeps.refl _ _).setCell _ _ (fun _ => rfl)) C1.it
          rw [← hF]
          refine bodyPost_ret (v := .tuple #[dz (.slice q3 l3 c3) G false, .int .i64 j, .int .i64 0]) (by simp [results, Tryd.results19, go_sem, z0, z1, z2]) rfl ?_
          exact ⟨_, _, rfl, ⟨X.it.row Y.it.row KW.it KF.it⟩⟩
        · obtain ⟨y, hy⟩ : ∃ y, b[j]? = some y := ⟨_, List.getElem?_eq_getElem (by rw [HM.it]; exact hlt)⟩
          obtain ⟨g, o, rfl, hc⟩ := (HX.it.keep (X.it.k.trans Y.it.k) (fun _ _ x => x)).get hy
          have TM := Aside.mk (take_more b j y hy)
          have i1 : (j : Int) ≤ 9223372036854775806 := by have := HM2.it; omega
          have LL : Aside ((ALL ++ b.take j).length ≤ 2199023255551) := ⟨by have := HM2.it; have := HN.it; have := HM.it; rw [List.length_append, List.length_take]; omega⟩
          clear hy hj
          go_wp2_with (first
            | (at_builtin; refine wpList_appendB rfl (.tmp 34) (.tmp 39) rfl W1.heap.size (.slice q3 l3 c3) (.slice (some ⟨wr.heap.size, 0, none⟩) 1 1) (ALL ++ b.take j) [y] (Y.it.row.later (((Keeps.refl Nowhere wr).alloc _).bel)) (rd_new wr [y] 1 rfl) (by have := LL.it; simp only [List.length_cons, List.length_nil]; omega) (Nat.le_trans Y.it.k.size (by rw [World.size_alloc]; omega)) rfl rfl ?_; intro v4 w4 o4 k4; obtain ⟨q4, c4, hv4⟩ := OwnB.shape o4.it; obtain ⟨l4, hl4⟩ : ∃ l4, ((ALL ++ b.take j) ++ [y]).length = l4 := ⟨_, rfl⟩; rw [hl4] at hv4; clear hl4; subst hv4)
            | fail)
          go_roundw
          case rel => exact ⟨j + 1, q4, l4, c4, by go_num, by omega, rfl, ⟨⟨by rw [TM.it, ← List.append_assoc]; exact o4.it, keeps_from (Y.it.k.alloc _) k4.it⟩⟩⟩
          case measure => simp [natOf]; omega
    · obtain ⟨y, hy⟩ : ∃ y, ALL[k]? = some y := ⟨_, List.getElem?_eq_getElem (by rw [HN.it]; exact hlt)⟩
      obtain ⟨g, o, rfl, hc⟩ := (HV.it.keep (X.it.k.trans Z.it.k) (fun _ _ x => x)).get hy
      have TM := Aside.mk (take_more ALL k y hy)
      have i1 : (k : Int) ≤ 9223372036854775806 := by have := HM2.it; omega
      have LL : Aside ((ALL.take k).length ≤ 2199023255551) := ⟨by have := HM2.it; have := HN.it; rw [List.length_take]; omega⟩
      clear hy hk
      go_wp2_with (first
        | (at_builtin; refine wpList_appendB rfl (.tmp 20) (.tmp 26) rfl W1.heap.size (.slice q l cc) (.slice (some ⟨wr.heap.size, 0, none⟩) 1 1) (ALL.take k) [y] (Z.it.row.later (((Keeps.refl Nowhere wr).alloc _).bel)) (rd_new wr [y] 1 rfl) (by have := LL.it; simp only [List.length_cons, List.length_nil]; omega) (Nat.le_trans Z.it.k.size (by rw [World.size_alloc]; omega)) rfl rfl ?_; intro v4 w4 o4 k4; obtain ⟨q4, c4, hv4⟩ := OwnB.shape o4.it; obtain ⟨l4, hl4⟩ : ∃ l4, ((ALL.take k) ++ [y]).length = l4 := ⟨_, rfl⟩; rw [hl4] at hv4; clear hl4; subst hv4)
        | fail)
      go_roundw
      case rel => exact ⟨k + 1, q4, l4, c4, by go_num, by omega, rfl, ⟨⟨by rw [TM.it]; exact o4.it, keeps_from (Z.it.k.alloc _) k4.it⟩⟩⟩
      case measure => simp [natOf]; omega
end
end Go.Proofs.YtpmmjekaefemeaaDoor
