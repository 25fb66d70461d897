/-
  culvertref28: Expire
-/
import Derived.Test.YtcmgmhdlokcgbaaDoorLuU
namespace Go.Proofs.YtcmgmhdlokcgbaaDoor
open Go.RowKit Lulnn

variable {w w' w0 W : World} {own own' : Nat → Nat} {i c o j b q n cb xb rb : Nat} {room R k now : Int} {L M : List Rx} {I : Nat → Prop} {A : Nat → Addr} {x y : Rx} {z : Oz} {v va vb : Value} {ks ms : List Int}

theorem owns_unlike {base base' k k' m n : Nat} {e e' : TypeId} {xs ys : List Value} (h : w.ownsRow base e k va m xs) (h' : w.ownsRow base' e' k' vb n ys) (hne : e ≠ e') : ∀ b, va.ownBlock = some b → ¬ vb.ownBlock = some b := by
  intro b hb hb'
  rcases h.2 with ⟨rfl, _⟩ | ⟨g, cap, cur, rfl, _, hg, _⟩
  · cases hb
  · rcases h'.2 with ⟨rfl, _⟩ | ⟨g', cap', cur', rfl, _, hg', _⟩
    · cases hb'
    · simp only [Value.ownBlock, Option.some.injEq] at hb hb'
      subst hb hb'
      rw [hg] at hg'
      injection hg' with hg'
      injection hg' with _ e1
      exact hne e1
theorem owns_len1 {base e k n l c : Nat} {a : Option Addr} {xs : List Value} (h : w.ownsRow base e k (.slice a l c) n xs) : l = n := by
  rcases h.2 with ⟨h1, h0⟩ | ⟨g, cap, cur, h1, _⟩
  · injection h1 with _ h2 _; omega
  · injection h1
/-- what Expire has gathered of the first j rows -/
structure Eg (W1 wr : World) (L : List Rx) (now : Int) (j : Nat) (sv gv : Value) : Prop where
  st : wr.ownsRow W1.heap.size 102 4 sv (stayL (L.take j) now).length (f4 (stayL (L.take j) now))
  go : wr.ownsRow W1.heap.size 3 1 gv (oldL (L.take j) now).length (rk (oldL (L.take j) now))
  kp : Keeps Nowhere W1 wr
theorem stay_le (now : Int) (j : Nat) : (stayL (L.take j) now).length ≤ j := by
  have h1 : (stayL (L.take j) now).length ≤ (L.take j).length := List.length_filter_le _ _
  rw [List.length_take] at h1
  omega
set_option maxRecDepth 20000 in
set_option maxHeartbeats 4000000 in
theorem dexpire28 (h : RdX own w v L) (R now : Int) (hmax : L.length * 32 ≤ 140737488355328) : Calls Tryd.prog 52 #[cch R v, .int .i64 now] w fun e w' => ∃ qa qn qc pa pn pc, e = .returned (.tuple #[cch R (.slice qa qn qc), .slice pa pn pc]) ∧ Aside (RdX (give own w.heap.size 9) w' (.slice qa qn qc) (stayL L now)) ∧ Aside (OwR (give own w.heap.size 9) 9 w' 3 1 (.slice pa pn pc) (oldL L now).length (rk (oldL L now))) ∧ Aside (Keeps Nowhere w w') := by
  have H := Aside.mk h
  obtain ⟨a, c, rfl, hlc, hcm, _⟩ := h.sh
  clear h
  have mx : maxLen ≤ 9223372036854775807 := by decide
  obtain ⟨W1, hW1⟩ : ∃ W1, (w.alloc (.cells #[.int .i64 R, .slice a L.length c] 31)).alloc (.cells #[.int .i64 0, .slice none 0 0] 31) = W1 := ⟨_, rfl⟩
  obtain ⟨K1, C1, C2⟩ := boxes28 w R (.slice a L.length c) W1 hW1
  have C1lt := Aside.mk C1.it.lt
  have C2lt := Aside.mk C2.it.lt
  obtain ⟨n, hn⟩ : ∃ n, L.length = n := ⟨_, rfl⟩
  have HN := Aside.mk hn
  rw [hn] at hlc hmax C1 hW1 ⊢
  clear hn
  go_enter Tryd.func52, Tryd.ntmps52
  go_upto_region 1 with fail
  clear hW1
  go_upto_region 4 with fail
  go_loopw [6, 7, 8] (fun sv gv jv wr => ∃ (j : Nat) (sa : Option Addr) (sn sc : Nat) (ga : Option Addr) (gn gc : Nat), sv = .slice sa sn sc ∧ gv = .slice ga gn gc ∧ jv = .int .i64 j ∧ j ≤ n ∧ Aside (Eg W1 wr L now j (.slice sa sn sc) (.slice ga gn gc))) (fun _ _ jv _ => n - natI jv)
  case atStart => exact ⟨0, none, 0, 0, none, 0, 0, rfl, rfl, rfl, Nat.zero_le _, ⟨World.ownsRow_nil _ _ _ _, World.ownsRow_nil _ _ _ _, Keeps.refl _ _⟩⟩
  case round =>
    obtain ⟨j, sa, sn, sc, ga, gn, gc, rfl, rfl, rfl, hj, X⟩ := hrel
    have D1 := Aside.mk (C1.it.later X.it.kp (fun x => x))
    have d1 : wr.cell? ⟨w.heap.size, 1, none⟩ = some (.slice a n c) := by rw [D1.it.cell]; rfl
    rcases Nat.eq_or_lt_of_le hj with rfl | hlt
    · have D2 := Aside.mk (C2.it.later X.it.kp (fun x => x))
      have f1 := D1.it.frozen 1
      go_upto_region 10 with fail
      have F1 := Aside.mk (D1.it.setCell 1 (.slice sa sn sc))
      have F2 := Aside.mk (D2.it.setOther ⟨w.heap.size, 1, none⟩ (.slice sa sn sc) (by simp))
      have KF : Aside (Keeps (fun x => x = w.heap.size) wr (wr.setCell ⟨w.heap.size, 1, none⟩ (.slice sa sn sc))) := ⟨(Keeps.refl _ _).setCell _ _ (fun _ => rfl)⟩
      clear d1 f1
      generalize wr.setCell ⟨w.heap.size, 1, none⟩ (.slice sa sn sc) = w7 at F1 F2 KF ⊢
      have y0 : w7.cell? ⟨w.heap.size, 0, none⟩ = some (.int .i64 R) := by rw [F1.it.cell]; rfl
      have y1 : w7.cell? ⟨w.heap.size, 1, none⟩ = some (.slice sa sn sc) := by rw [F1.it.cell]; rfl
      have z0 : w7.cell? ⟨w.heap.size + 1, 0, none⟩ = some (.int .i64 0) := by rw [F2.it.cell]; rfl
      have z1 : w7.cell? ⟨w.heap.size + 1, 1, none⟩ = some (.slice none 0 0) := by rw [F2.it.cell]; rfl
      have h0 := F2.it.frozen 0
      have h1 := F2.it.frozen 1
      go_wp2_with fail
      have K7 : Keeps Nowhere w w7 := (K1.it.trans X.it.kp).next KF.it (fun x e hlt => by omega)
      obtain ⟨u0, u1, KG, KR⟩ := res28 w F2.it (Nat.le_succ _) K7 R (.slice sa sn sc)
      refine bodyPost_ret (v := .tuple #[cch R (.slice sa sn sc), .slice ga gn gc]) (by simp [results, Tryd.f52, go_sem, u0, u1]) rfl ?_
      have s1 := X.it.st
      have s2 := X.it.go
      rw [List.take_of_length_le (by rw [HN.it]; exact Nat.le_refl _)] at s1 s2
      have c1l := C1lt.it
      have c2l := C2lt.it
      refine ⟨_, _, _, _, _, _, rfl, ⟨?_⟩, ⟨?_⟩, KG⟩
      · refine owns_rdN (owns_later (owns_later s1 KF.it (fun b hb e => ?_)) KR.it (fun b hb e => ?_)) rfl K1.it.size
        · have := owns_base s1 b hb; omega
        · have := owns_base s1 b hb; omega
      · refine OwR.new (owns_base_le (owns_later (owns_later s2 KF.it (fun b hb e => ?_)) KR.it (fun b hb e => ?_)) K1.it.size)
        · have := owns_base s2 b hb; omega
        · have := owns_base s2 b hb; omega
    · have hlt' : (j : Int) < (n : Int) := by omega
      obtain ⟨y, hy⟩ : ∃ y, L[j]? = some y := ⟨_, List.getElem?_eq_getElem (by rw [HN.it]; exact hlt)⟩
      obtain ⟨g, c', hv, _, y0, y1, y2, y3⟩ := H.it.at_ j y hy
      injection hv with hv1 hv2 hv3
      subst hv1 hv3
      have hb := (K1.it.trans X.it.kp).block g (World.block_lt_of_cell? w _ y0) (fun x => x)
      have y0 : wr.cell? ⟨g, j * 4, none⟩ = some (.int .i64 y.k) := by rw [World.cell?_of_block (w := w) hb]; exact y0
      have y1 : wr.cell? ⟨g, j * 4 + 1, none⟩ = some (.int .i64 y.t) := by rw [World.cell?_of_block (w := w) hb]; exact y1
      have y2 : wr.cell? ⟨g, j * 4 + 2, none⟩ = some (.int .i64 y.w) := by rw [World.cell?_of_block (w := w) hb]; exact y2
      have y3 : wr.cell? ⟨g, j * 4 + 3, none⟩ = some (.int .i64 y.u) := by rw [World.cell?_of_block (w := w) hb]; exact y3
      have HY := Aside.mk hy
      have l1 := stay_le (L := L) now j
      have l2 := old_le (L := L) now j
      have sl := owns_len1 X.it.st
      have gl := owns_len1 X.it.go
      rw [← sl] at l1
      rw [← gl] at l2
      have OS : Aside (wr.ownsRow W1.heap.size 102 4 (.slice sa sn sc) sn (f4 (stayL (L.take j) now))) := ⟨by have r := X.it.st; rw [← sl] at r; exact r⟩
      have OG : Aside (wr.ownsRow W1.heap.size 3 1 (.slice ga gn gc) gn (rk (oldL (L.take j) now))) := ⟨by have r := X.it.go; rw [← gl] at r; exact r⟩
      have b1 : (sn + 1) * 32 ≤ 140737488355328 := by omega
      have b2 : sn + 1 ≤ maxLen := Nat.le_trans (show sn + 1 ≤ 140737488355328 by omega) (by decide)
      have b3 : (gn + 1) * 8 ≤ 140737488355328 := by omega
      have b4 : gn + 1 ≤ maxLen := Nat.le_trans (show gn + 1 ≤ 140737488355328 by omega) (by decide)
      have SS : Aside (stayL (L.take (j + 1)) now = stayL (L.take j) now ++ (if now < y.u then [y] else [])) := ⟨stay_snoc now hy⟩
      have GS : Aside (oldL (L.take (j + 1)) now = oldL (L.take j) now ++ (if now < y.u then [] else [y])) := ⟨old_snoc now hy⟩
      have SN := Aside.mk (And.intro sl gl)
      clear hy hb sl gl hv2
      by_cases hu : now < y.u
      · have hu' : ¬ y.u ≤ now := by omega
        rw [if_pos hu] at SS GS
        go_wp2_with (first
          | (at_builtin; refine wpList_appendR rfl _ _ 29 rfl 102 (.agg #[.int .i64 0, .int .i64 0, .int .i64 0, .int .i64 0]) 4 32 Tryd.underlying29 info4 rfl (by decide) wr ((Keeps.refl _ _).alloc _) W1.heap.size _ sn _ OS.it _ 1 (x4 y) (readsK_new wr 102 (x4 y)) (by simp [x4, Value.oneCell']) b1 b2 X.it.kp.size rfl rfl ?_
             intro v' w' o5 k5 b5
             obtain ⟨p1, p2, p3, hv'⟩ := owns_shapeK o5.it
             subst hv')
          | fail)
        go_roundw
        case rel =>
          refine ⟨j + 1, p1, p2, p3, ga, gn, gc, rfl, rfl, by go_num, hlt, ⟨?_, ?_, ?_⟩⟩
          · rw [SS.it, f4_append, f4_one, List.length_append, ← SN.it.1]
            exact o5.it
          · rw [GS.it, List.append_nil]
            refine owns_later X.it.go (((Keeps.refl Nowhere wr).alloc _).any.trans k5.it) (fun b hb e => owns_unlike X.it.st X.it.go (by decide) b e hb)
          · exact (X.it.kp.alloc _).next k5.it (fun x e hlt => by have := owns_base OS.it x e; omega)
        case measure => simp [natI]; omega
      · have hu' : y.u ≤ now := by omega
        rw [if_neg hu] at SS GS
        go_wp2_with (first
          | (at_builtin; refine wpList_appendR rfl _ _ 54 rfl 3 (.int .i64 0) 1 8 Tryd.underlying54 infoK rfl (by decide) wr ((Keeps.refl _ _).alloc _) W1.heap.size _ gn _ OG.it _ 1 [.int .i64 y.k] (readsK_new wr 3 [.int .i64 y.k]) rk_cells b3 b4 X.it.kp.size rfl rfl ?_
             intro v' w' o5 k5 b5
             obtain ⟨p1, p2, p3, hv'⟩ := owns_shapeK o5.it
             subst hv')
          | fail)
        go_roundw
        case rel =>
          refine ⟨j + 1, sa, sn, sc, p1, p2, p3, rfl, rfl, by go_num, hlt, ⟨?_, ?_, ?_⟩⟩
          · rw [SS.it, List.append_nil]
            refine owns_later X.it.st (((Keeps.refl Nowhere wr).alloc _).any.trans k5.it) (fun b hb e => owns_unlike X.it.st X.it.go (by decide) b hb e)
          · rw [GS.it, rk_append, rk_one, List.length_append, ← SN.it.2]
            exact o5.it
          · exact (X.it.kp.alloc _).next k5.it (fun x e hlt => by have := owns_base OG.it x e; omega)
        case measure => simp [natI]; omega
end Go.Proofs.YtcmgmhdlokcgbaaDoor
