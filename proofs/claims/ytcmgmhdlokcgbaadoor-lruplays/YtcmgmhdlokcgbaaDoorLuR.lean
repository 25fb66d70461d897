/-
  culvertref28: rows as they are read; At, Weight, Keys, New
-/
import Derived.Test.YtcmgmhdlokcgbaaDoorLuBl
import Derived.BigRegion
namespace Go.Proofs.YtcmgmhdlokcgbaaDoor
open Go.RowKit Lulnn

variable {w w' w0 W : World} {own own' : Nat → Nat} {i c o j b q n : Nat} {room R k now : Int} {L M : List Rx} {I : Nat → Prop} {A : Nat → Addr} {x y : Rx} {z : Oz} {v va vb : Value} {ks ms : List Int}

abbrev x4 (x : Rx) : List Value := [.int .i64 x.k, .int .i64 x.t, .int .i64 x.w, .int .i64 x.u]
def f4 (L : List Rx) : List Value := L.flatMap x4
theorem f4_append (L M : List Rx) : f4 (L ++ M) = f4 L ++ f4 M := by simp [f4, List.flatMap_append]
theorem f4_one (x : Rx) : f4 [x] = x4 x := by simp [f4]
theorem f4_len : (f4 L).length = L.length * 4 := by
  induction L with
  | nil => rfl
  | cons a L ih => have e : f4 (a :: L) = x4 a ++ f4 L := rfl; rw [e, List.length_append, ih]; simp; omega
theorem f4_at (L : List Rx) : ∀ (j : Nat) (x : Rx), L[j]? = some x → ∀ (k : Nat) (u : Value), (x4 x)[k]? = some u → (f4 L)[j * 4 + k]? = some u := by
  induction L with
  | nil => intro j x h; simp at h
  | cons y L ih =>
    intro j x h k u hu
    have hk : k < 4 := by have := (List.getElem?_eq_some_iff.1 hu).1; simpa using this
    have e : f4 (y :: L) = x4 y ++ f4 L := rfl
    rw [e]
    cases j with
    | zero =>
      simp only [List.getElem?_cons_zero, Option.some.injEq] at h
      subst h
      rw [List.getElem?_append_left (by simp; omega)]
      simpa using hu
    | succ j =>
      simp only [List.getElem?_cons_succ] at h
      rw [List.getElem?_append_right (by simp; omega)]
      have : (j + 1) * 4 + k - (x4 y).length = j * 4 + k := by simp; omega
      rw [this]
      exact ih j x h k u hu
theorem f4_inv (L : List Rx) : ∀ (p : Nat) (u : Value), (f4 L)[p]? = some u → ∃ j x k, p = j * 4 + k ∧ k < 4 ∧ L[j]? = some x ∧ (x4 x)[k]? = some u := by
  intro p u h
  have hp := (List.getElem?_eq_some_iff.1 h).1
  rw [f4_len] at hp
  have hj : p / 4 < L.length := by omega
  have hx : L[p / 4]? = some L[p / 4] := List.getElem?_eq_getElem hj
  have hk : p % 4 < (x4 L[p / 4]).length := Nat.mod_lt _ (by decide)
  have h4 := f4_at L (p / 4) _ hx (p % 4) _ (List.getElem?_eq_getElem hk)
  have e : p / 4 * 4 + p % 4 = p := by omega
  rw [e, h] at h4
  exact ⟨p / 4, _, p % 4, e.symm, Nat.mod_lt _ (by decide), hx, by rw [List.getElem?_eq_getElem hk]; exact h4.symm⟩
theorem info4 : (Tryd.prog.info? 102).map (fun i => (i.zero, i.size, i.bytes)) = some (some (.agg #[.int .i64 0, .int .i64 0, .int .i64 0, .int .i64 0]), 4, 32) := by kernel_rfl
/-- the document's rows: owner 9's, whom no call changes -/
structure RdX (own : Nat → Nat) (w : World) (v : Value) (L : List Rx) : Prop where
  sh : ∃ a c, v = .slice a L.length c ∧ L.length ≤ c ∧ c ≤ maxLen ∧ (a = none → c = 0)
  at_ : ∀ j x, L[j]? = some x → ∃ g c, v = .slice (some ⟨g, 0, none⟩) L.length c ∧ (own g = 9 ∧ ∃ cur, w.heap[g]? = some (.cells cur 102 (0, 0))) ∧ w.cell? ⟨g, j * 4, none⟩ = some (.int .i64 x.k) ∧ w.cell? ⟨g, j * 4 + 1, none⟩ = some (.int .i64 x.t) ∧ w.cell? ⟨g, j * 4 + 2, none⟩ = some (.int .i64 x.w) ∧ w.cell? ⟨g, j * 4 + 3, none⟩ = some (.int .i64 x.u)
theorem RdX.sn (h : RdX own w v L) (s : Sn I own w own' w') (hi : ¬ I 9) : RdX own' w' v L := by
  refine ⟨h.sh, fun j x hj => ?_⟩
  obtain ⟨g, c, ea, ho, c0, c1, c2, c3⟩ := h.at_ j x hj
  have hg := World.block_lt_of_cell? w _ c0
  have hb := s.keeps.block g hg (fun e => hi (by rw [← ho.1]; exact e))
  exact ⟨g, c, ea, ⟨(s.agree g hg).trans ho.1, by rw [hb]; exact ho.2⟩, by rw [World.cell?_of_block (w := w) hb]; exact c0, by rw [World.cell?_of_block (w := w) hb]; exact c1, by rw [World.cell?_of_block (w := w) hb]; exact c2, by rw [World.cell?_of_block (w := w) hb]; exact c3⟩
theorem RdX.quiet (h : RdX own w v L) (hk : Keeps Nowhere w w') : RdX own w' v L := h.sn (I := fun _ => False) (Sn.same hk) (fun x => x)
theorem RdX.later {S : Nat → Prop} (h : RdX own w v L) (hk : Keeps S w w') (hS : ∀ b cur, w.heap[b]? = some (.cells cur 102 (0, 0)) → ¬ S b) : RdX own w' v L := by
  refine ⟨h.sh, fun j x hj => ?_⟩
  obtain ⟨g, c, ea, ho, c0, c1, c2, c3⟩ := h.at_ j x hj
  obtain ⟨ho, cur, hc⟩ := ho
  have hg := World.block_lt_of_cell? w _ c0
  have hb := hk.block g hg (hS g cur hc)
  exact ⟨g, c, ea, ⟨ho, cur, by rw [hb]; exact hc⟩, by rw [World.cell?_of_block (w := w) hb]; exact c0, by rw [World.cell?_of_block (w := w) hb]; exact c1, by rw [World.cell?_of_block (w := w) hb]; exact c2, by rw [World.cell?_of_block (w := w) hb]; exact c3⟩
theorem RdX.nil (own : Nat → Nat) (w : World) : RdX own w (.slice none 0 0) [] := ⟨⟨none, 0, rfl, Nat.le_refl _, by decide, fun _ => rfl⟩, fun j x h => by simp at h⟩
theorem owns_rdX {base : Nat} {n : Nat} (h : w'.ownsRow base 102 4 v n (f4 L)) (hn : n = L.length) (hb : ∀ g, v.ownBlock = some g → own g = 9) : RdX own w' v L := by
  subst hn
  rcases h.2 with ⟨rfl, h0⟩ | ⟨g, cap, cur, rfl, hg, hc, hn, hm, hs, ht⟩
  · obtain rfl : L = [] := List.eq_nil_of_length_eq_zero h0
    exact RdX.nil _ _
  · refine ⟨⟨_, cap, rfl, hn, hm, fun e => by cases e⟩, fun j x hj => ⟨g, cap, rfl, ⟨hb g rfl, cur, hc⟩, ?_, ?_, ?_, ?_⟩⟩
    · have := h.cells rfl (j * 4) _ (f4_at L j x hj 0 _ rfl)
      rwa [add_none, Nat.zero_add] at this
    · have := h.cells rfl (j * 4 + 1) _ (f4_at L j x hj 1 _ rfl)
      rwa [add_none, Nat.zero_add] at this
    · have := h.cells rfl (j * 4 + 2) _ (f4_at L j x hj 2 _ rfl)
      rwa [add_none, Nat.zero_add] at this
    · have := h.cells rfl (j * 4 + 3) _ (f4_at L j x hj 3 _ rfl)
      rwa [add_none, Nat.zero_add] at this
theorem owns_rdN {base : Nat} {n : Nat} (h : w'.ownsRow base 102 4 v n (f4 L)) (hn : n = L.length) (hb : w.heap.size ≤ base) : RdX (give own w.heap.size 9) w' v L :=
  owns_rdX h hn (fun g hg => give_new (Nat.le_trans hb (owns_base h g hg)))
/-- the place of a key -/
def atN (L : List Rx) (k : Int) : Option Nat := L.findIdx? (fun x => decide (x.k = k))
def atI (L : List Rx) (k : Int) : Int := match atN L k with | some i => i | none => -1
theorem atI_drop (hx : L[j]? = some x) (h : ∀ y ∈ L.take j, y.k ≠ k) (e : x.k = k) : atI L k = j := by
  have : atN L k = some j := by
    unfold atN
    rw [List.findIdx?_eq_some_iff_getElem]
    have hl := (List.getElem?_eq_some_iff.1 hx)
    obtain ⟨hl1, hl2⟩ := hl
    refine ⟨hl1, by rw [hl2]; exact decide_eq_true e, fun i hi => ?_⟩
    have hm : L[i]'(by omega) ∈ L.take j := by
      rw [List.mem_take_iff_getElem]
      exact ⟨i, by omega, rfl⟩
    simpa using h _ hm
  unfold atI
  rw [this]
theorem atI_none (h : ∀ y ∈ L, y.k ≠ k) : atI L k = -1 := by
  have : atN L k = none := by
    unfold atN
    rw [List.findIdx?_eq_none_iff]
    intro y hy
    simpa using h y hy
  unfold atI
  rw [this]
abbrev cch (room : Int) (v : Value) : Value := .agg #[.int .i64 room, v]
/-- a box of the document's cache above a world -/
theorem box28 (w : World) (R : Int) (v : Value) : Aside (Keeps Nowhere w (w.alloc (.cells #[.int .i64 R, v] 31))) ∧ Aside (Cells (w.alloc (.cells #[.int .i64 R, v] 31)) w.heap.size 31 [.int .i64 R, v]) := ⟨⟨(Keeps.refl _ _).alloc _⟩, ⟨Cells.new w _ _⟩⟩
set_option maxHeartbeats 1000000 in
theorem dat (h : RdX own w v L) (R k : Int) : Calls Tryd.prog 50 #[cch R v, .int .i64 k] w fun e w' => e = .returned (.int .i64 (atI L k)) ∧ Aside (Keeps Nowhere w w') := by
  obtain ⟨K1, C1⟩ := box28 w R v
  have H := Aside.mk h
  obtain ⟨a, c, rfl, hlc, hcm, _⟩ := h.sh
  have mx : maxLen ≤ 9223372036854775807 := by decide
  have HL : Aside (∀ j : Nat, j ≤ L.length → (∀ y ∈ L.take j, y.k ≠ k) → j = L.length → atI L k = -1) := ⟨fun j _ h e => atI_none (by rw [e, List.take_length] at h; exact h)⟩
  have HD : Aside (∀ (j : Nat) x, L[j]? = some x → (∀ y ∈ L.take j, y.k ≠ k) → x.k = k → atI L k = j) := ⟨fun j x hx h e => atI_drop hx h e⟩
  clear h
  go_enter Tryd.func50, Tryd.ntmps50
  go_upto_region 2 with fail
  generalize w.alloc (.cells #[.int .i64 R, .slice a L.length c] 31) = W1 at K1 C1 ⊢
  generalize w.heap.size = bx at C1 ⊢
  have d1 : W1.cell? ⟨bx, 1, none⟩ = some (.slice a L.length c) := by rw [C1.it.cell]; rfl
  obtain ⟨n, hn⟩ : ∃ n, L.length = n := ⟨_, rfl⟩
  have HN := Aside.mk hn
  rw [hn] at hlc d1 HL ⊢
  clear hn
  go_loopw [5] (fun jv wr => ∃ j : Nat, jv = .int .i64 j ∧ j ≤ n ∧ wr = W1 ∧ Aside (∀ y ∈ L.take j, y.k ≠ k)) (fun jv _ => n - natI jv)
  case atStart => exact ⟨0, rfl, Nat.zero_le _, rfl, ⟨fun y hy => by simp at hy⟩⟩
  case round =>
    obtain ⟨j, rfl, hj, rfl, HT⟩ := hrel
    rcases Nat.eq_or_lt_of_le hj with rfl | hlt
    · have e := HL.it j (Nat.le_refl _) HT.it rfl
      go_wp2_with fail
      go_ret
      rw [e]
      exact ⟨rfl, K1⟩
    · have hlt' : (j : Int) < (n : Int) := by omega
      obtain ⟨y, hy⟩ : ∃ y, L[j]? = some y := ⟨_, List.getElem?_eq_getElem (by rw [HN.it]; exact hlt)⟩
      obtain ⟨g, c', hv, _, y0, y1, y2, y3⟩ := H.it.at_ j y hy
      injection hv with hv1 hv2 hv3
      subst hv1 hv3
      have z0 : wr.cell? ⟨g, j * 4, none⟩ = some (.int .i64 y.k) := by rw [World.cell?_of_block (w := w) (K1.it.block g (World.block_lt_of_cell? w _ y0) (fun x => x))]; exact y0
      have HY := Aside.mk hy
      clear hy y0 y1 y2 y3 hv2
      by_cases hk : y.k = k
      · have q : (y.k == k) = true := by simp [hk]
        have e := HD.it j y HY.it HT.it hk
        go_wp2_with fail
        go_ret
        rw [e]
        exact ⟨rfl, K1⟩
      · have q : (y.k == k) = false := by simp [hk]
        go_wp2_with fail
        go_roundw
        case rel =>
          refine ⟨j + 1, by go_num, hlt, by trivial, ⟨fun x hx => ?_⟩⟩
          rw [Rx_take_snoc HY.it] at hx
          rcases List.mem_append.1 hx with hx | hx
          · exact HT.it x hx
          · rw [List.mem_singleton.1 hx]; exact hk
        case measure => simp [natI]; omega
theorem sum_le (h : LOk room L) (j : Nat) : 0 ≤ sumL (L.take j) ∧ sumL (L.take j) ≤ room := by
  refine ⟨sumL_nonneg (fun x hx => h.w0 x (List.mem_of_mem_take hx)), Int.le_trans (sumL_take_le h.w0 j) h.sum⟩
set_option maxHeartbeats 1000000 in
theorem dweight (h : RdX own w v L) (R : Int) (ho : LOk room L) : Calls Tryd.prog 53 #[cch R v] w fun e w' => e = .returned (.int .i64 (sumL L)) ∧ Aside (Keeps Nowhere w w') := by
  obtain ⟨K1, C1⟩ := box28 w R v
  have H := Aside.mk h
  obtain ⟨a, c, rfl, hlc, hcm, _⟩ := h.sh
  have mx : maxLen ≤ 9223372036854775807 := by decide
  have HO := Aside.mk ho
  have hr1 := ho.r1
  clear h ho
  go_enter Tryd.func53, Tryd.ntmps53
  go_upto_region 3 with fail
  generalize w.alloc (.cells #[.int .i64 R, .slice a L.length c] 31) = W1 at K1 C1 ⊢
  generalize w.heap.size = bx at C1 ⊢
  have d1 : W1.cell? ⟨bx, 1, none⟩ = some (.slice a L.length c) := by rw [C1.it.cell]; rfl
  obtain ⟨n, hn⟩ : ∃ n, L.length = n := ⟨_, rfl⟩
  have HN := Aside.mk hn
  rw [hn] at hlc d1 ⊢
  clear hn
  go_loopw [3, 4] (fun sv jv wr => ∃ j : Nat, sv = .int .i64 (sumL (L.take j)) ∧ jv = .int .i64 j ∧ j ≤ n ∧ wr = W1) (fun _ jv _ => n - natI jv)
  case atStart => exact ⟨0, rfl, rfl, Nat.zero_le _, rfl⟩
  case round =>
    obtain ⟨j, rfl, rfl, hj, rfl⟩ := hrel
    rcases Nat.eq_or_lt_of_le hj with rfl | hlt
    · have e : sumL (L.take j) = sumL L := by rw [List.take_of_length_le (by rw [HN.it]; exact Nat.le_refl _)]
      rw [e]
      go_wp2_with fail
      go_ret
      exact ⟨rfl, K1⟩
    · have hlt' : (j : Int) < (n : Int) := by omega
      obtain ⟨y, hy⟩ : ∃ y, L[j]? = some y := ⟨_, List.getElem?_eq_getElem (by rw [HN.it]; exact hlt)⟩
      obtain ⟨g, c', hv, _, y0, y1, y2, y3⟩ := H.it.at_ j y hy
      injection hv with hv1 hv2 hv3
      subst hv1 hv3
      have z2 : wr.cell? ⟨g, j * 4 + 2, none⟩ = some (.int .i64 y.w) := by rw [World.cell?_of_block (w := w) (K1.it.block g (World.block_lt_of_cell? w _ y0) (fun x => x))]; exact y2
      have es : sumL (L.take (j + 1)) = sumL (L.take j) + y.w := by rw [Rx_take_snoc hy, sumL_append, sumL_cons, sumL_nil, Int.add_zero]
      have s1 := sum_le HO.it (j + 1)
      rw [es] at s1
      have ES := Aside.mk es
      have b1 : -9223372036854775808 ≤ sumL (L.take j) + y.w := by omega
      have b2 : sumL (L.take j) + y.w ≤ 9223372036854775807 := by omega
      clear hy y0 y1 y2 y3 hv2 es s1
      generalize sumL (L.take j) = S at b1 b2 ES ⊢
      go_wp2_with fail
      go_roundw
      case rel => exact ⟨j + 1, by rw [ES.it], by go_num, hlt, by trivial⟩
      case measure => simp [natI]; omega
set_option maxHeartbeats 1000000 in
theorem dkeys (h : RdX own w v L) (R : Int) (hmax : L.length * 8 ≤ 140737488355328) (o : Nat) : Calls Tryd.prog 54 #[cch R v] w fun e w' => ∃ qa qc, e = .returned (.slice qa L.length qc) ∧ Aside (OwR (give own w.heap.size o) o w' 3 1 (.slice qa L.length qc) L.length (rk L)) ∧ Aside (Keeps Nowhere w w') := by
  obtain ⟨K1, C1⟩ := box28 w R v
  have H := Aside.mk h
  obtain ⟨a, c, rfl, hlc, hcm, _⟩ := h.sh
  have mx : maxLen ≤ 9223372036854775807 := by decide
  clear h
  go_enter Tryd.func54, Tryd.ntmps54
  go_upto_region 3 with fail
  generalize w.alloc (.cells #[.int .i64 R, .slice a L.length c] 31) = W1 at K1 C1 ⊢
  generalize hbx : w.heap.size = bx at C1 ⊢
  have d1 : W1.cell? ⟨bx, 1, none⟩ = some (.slice a L.length c) := by rw [C1.it.cell]; rfl
  have hb1 : bx < W1.heap.size := C1.it.lt
  obtain ⟨n, hn⟩ : ∃ n, L.length = n := ⟨_, rfl⟩
  have HN := Aside.mk hn
  rw [hn] at hlc d1 hmax ⊢
  clear hn
  go_loopw [3, 4] (fun ov jv wr => ∃ (j : Nat) (ga : Option Addr) (gc : Nat), ov = .slice ga j gc ∧ jv = .int .i64 j ∧ j ≤ n ∧ Aside (wr.ownsRow W1.heap.size 3 1 (.slice ga j gc) j (rk (L.take j))) ∧ Aside (Keeps Nowhere W1 wr)) (fun _ jv _ => n - natI jv)
  case atStart => exact ⟨0, none, 0, rfl, rfl, Nat.zero_le _, ⟨World.ownsRow_nil _ _ _ _⟩, ⟨Keeps.refl _ _⟩⟩
  case round =>
    obtain ⟨j, ga, gc, rfl, rfl, hj, O, K⟩ := hrel
    have d2 : wr.cell? ⟨bx, 1, none⟩ = some (.slice a n c) := by rw [World.cell?_of_block (w := W1) (K.it.block bx hb1 (fun x => x))]; exact d1
    rcases Nat.eq_or_lt_of_le hj with rfl | hlt
    · go_wp2_with fail
      go_ret
      have e0 := HN.it
      subst e0
      refine ⟨ga, gc, rfl, ⟨?_⟩, ⟨K1.it.trans K.it⟩⟩
      have r := O.it
      rw [List.take_length] at r
      have r2 := OwR.new (own := own) (o := o) (W := w) (owns_base_le r (by rw [hbx]; omega))
      exact r2
    · have hlt' : (j : Int) < (n : Int) := by omega
      obtain ⟨y, hy⟩ : ∃ y, L[j]? = some y := ⟨_, List.getElem?_eq_getElem (by rw [HN.it]; exact hlt)⟩
      obtain ⟨g, c', hv, _, y0, y1, y2, y3⟩ := H.it.at_ j y hy
      injection hv with hv1 hv2 hv3
      subst hv1 hv3
      have z0 : wr.cell? ⟨g, j * 4, none⟩ = some (.int .i64 y.k) := by rw [World.cell?_of_block (w := w) ((K1.it.trans K.it).block g (World.block_lt_of_cell? w _ y0) (fun x => x))]; exact y0
      have b1 : (j + 1) * 8 ≤ 140737488355328 := by omega
      have b2 : j + 1 ≤ maxLen := Nat.le_trans (show j + 1 ≤ 140737488355328 by omega) (by decide)
      have HY := Aside.mk hy
      clear hy y0 y1 y2 y3 hv2
      go_wp2_with (first
        | (at_builtin; refine wpList_appendR rfl _ _ 54 rfl 3 (.int .i64 0) 1 8 Tryd.underlying54 infoK rfl (by decide) wr ((Keeps.refl _ _).alloc _) W1.heap.size _ j _ O.it _ 1 [.int .i64 y.k] (readsK_new wr 3 [.int .i64 y.k]) rk_cells b1 b2 K.it.size rfl rfl ?_
           intro v' w' o5 k5 b5
           have K5 : Aside (Keeps Nowhere W1 w') := ⟨(K.it.alloc _).next k5.it (fun x e hlt => by have := owns_base O.it x e; omega)⟩
           obtain ⟨p1, p2, p3, hv'⟩ := owns_shapeK o5.it
           obtain rfl : p2 = j + 1 := (by
             rcases o5.it.2 with ⟨e, h0⟩ | ⟨g, cap, cur, e, _⟩
             · exact absurd h0 (by omega)
             · rw [hv'] at e; injection e)
           subst hv')
        | fail)
      go_roundw
      case rel =>
        refine ⟨j + 1, p1, p3, rfl, by go_num, hlt, ⟨?_⟩, K5⟩
        rw [Rx_take_snoc HY.it, rk_append, rk_one]
        exact o5.it
      case measure => simp [natI]; omega
end Go.Proofs.YtcmgmhdlokcgbaaDoor
