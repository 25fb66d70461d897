/-
  culvertlaw28: find, without
-/
import Derived.Test.YthjeeianlgkaaaaDoorLuL
import Derived.Test.YthjeeianlgkaaaaDoorLmP
namespace Go.Proofs.YthjeeianlgkaaaaDoor
open Go.RowKit Lulnn

variable {w w' w0 W : World} {own own' : Nat → Nat} {i c o j : Nat} {room k : Int} {L M : List Rx} {I : Nat → Prop} {A : Nat → Addr} {x y : Rx} {z : Oz} {v va vb : Value}

set_option maxHeartbeats 1000000 in
theorem find_ (h : Rd3 w v L) (k : Int) : Calls Tryd.prog 9 #[v, .int .i64 k] w fun e w' => e = .returned (.int .i64 (atM L k)) ∧ w' = w := by
  obtain ⟨a, c, rfl, hlc, hcm, hr⟩ := h
  have H := Aside.mk hr
  have mx : maxLen ≤ 9223372036854775807 := by decide
  have HL : Aside (∀ j : Nat, j ≤ L.length → (∀ y ∈ L.take j, y.k ≠ k) → j = L.length → atM L k = -1) := ⟨fun j _ h e => atM_none (by rw [e, List.take_length] at h; exact h)⟩
  have HD : Aside (∀ (j : Nat) x, L[j]? = some x → (∀ y ∈ L.take j, y.k ≠ k) → x.k = k → atM L k = j) := ⟨fun j x hx h e => atM_drop hx h e⟩
  clear hr
  obtain ⟨n, hn⟩ : ∃ n, L.length = n := ⟨_, rfl⟩
  have HN := Aside.mk hn
  rw [hn] at hlc HL ⊢
  clear hn
  go_enter Tryd.func9, Tryd.ntmps9
  go_upto_region 2 with fail
  go_loopw [5] (fun jv wr => ∃ j : Nat, jv = .int .i64 j ∧ j ≤ n ∧ wr = w ∧ Aside (∀ y ∈ L.take j, y.k ≠ k)) (fun jv _ => n - natI jv)
  case atStart => exact ⟨0, rfl, Nat.zero_le _, rfl, ⟨fun y hy => by simp at hy⟩⟩
  case round =>
    obtain ⟨j, rfl, hj, rfl, HT⟩ := hrel
    rcases Nat.eq_or_lt_of_le hj with rfl | hlt
    · have e := HL.it j (Nat.le_refl _) HT.it rfl
      go_wp2_with fail
      go_ret
      rw [e]
      exact ⟨rfl, rfl⟩
    · have hlt' : (j : Int) < (n : Int) := by omega
      obtain ⟨y, hy⟩ : ∃ y, L[j]? = some y := ⟨_, List.getElem?_eq_getElem (by rw [HN.it]; exact hlt)⟩
      obtain ⟨g, o, rfl, y0, y1, y2⟩ := H.it j y hy
      have HY := Aside.mk hy
      clear hy y1 y2
      by_cases hk : y.k = k
      · have q : (y.k == k) = true := by simp [hk]
        have e := HD.it j y HY.it HT.it hk
        go_wp2_with fail
        go_ret
        rw [e]
        exact ⟨rfl, rfl⟩
      · have q : (y.k == k) = false := by simp [hk]
        go_wp2_with fail
        go_roundw
        case rel =>
          refine ⟨j + 1, by go_num, hlt, by trivial, ⟨fun x hx => ?_⟩⟩
          rw [Rx_take_snoc HY.it] at hx
          rcases List.mem_append.1 hx with hx | hx
          · exact HT.it x hx
          · rw [List.mem_singleton.1 hx]; exact hk
        case measure => simp [natI]; omega
set_option maxHeartbeats 2000000 in
set_option maxRecDepth 20000 in
theorem without_ (h : Rd3 w v L) (k : Int) (hmax : L.length * 24 ≤ 140737488355328) (o : Nat) :
    Calls Tryd.prog 12 #[v, .int .i64 k] w fun e w' => ∃ qa qc, e = .returned (.slice qa (woL L k).length qc) ∧ Aside (OwR (give own w.heap.size o) o w' 41 3 (.slice qa (woL L k).length qc) (woL L k).length (r3 (woL L k))) ∧ Aside (Keeps Nowhere w w') := by
  obtain ⟨a, c, rfl, hlc, hcm, hr⟩ := h
  have H := Aside.mk hr
  have mx : maxLen ≤ 9223372036854775807 := by decide
  clear hr
  obtain ⟨n, hn⟩ : ∃ n, L.length = n := ⟨_, rfl⟩
  have HN := Aside.mk hn
  rw [hn] at hlc hmax ⊢
  clear hn
  go_enter Tryd.func12, Tryd.ntmps12
  go_upto_region 3 with fail
  go_loopw [5, 6] (fun ov jv wr => ∃ (j m : Nat) (ga : Option Addr) (gc : Nat), ov = .slice ga m gc ∧ jv = .int .i64 j ∧ j ≤ n ∧ m ≤ j ∧ Aside (m = (woL (L.take j) k).length) ∧ Aside (wr.ownsRow w.heap.size 41 3 (.slice ga m gc) m (r3 (woL (L.take j) k))) ∧ Aside (Keeps Nowhere w wr)) (fun _ jv _ => n - natI jv)
  case atStart => exact ⟨0, 0, none, 0, rfl, rfl, Nat.zero_le _, Nat.le_refl _, ⟨rfl⟩, ⟨World.ownsRow_nil _ _ _ _⟩, ⟨Keeps.refl _ _⟩⟩
  case round =>
    obtain ⟨j, m, ga, gc, rfl, rfl, hj, hmj, hm, O, K⟩ := hrel
    rcases Nat.eq_or_lt_of_le hj with rfl | hlt
    · go_wp2_with fail
      go_ret
      have e0 := HN.it
      have hm := hm.it
      rw [← e0, List.take_length] at hm O
      subst hm
      exact ⟨ga, gc, rfl, ⟨OwR.new O.it⟩, K⟩
    · have hlt' : (j : Int) < (n : Int) := by omega
      obtain ⟨y, hy⟩ : ∃ y, L[j]? = some y := ⟨_, List.getElem?_eq_getElem (by rw [HN.it]; exact hlt)⟩
      obtain ⟨g, o2, rfl, y0, y1, y2⟩ := H.it j y hy
      have hb := K.it.block g (World.block_lt_of_cell? w _ y0) (fun x => x)
      have y0 : wr.cell? ⟨g, o2 + j * 3, none⟩ = some (.int .i64 y.k) := by rw [World.cell?_of_block (w := w) hb]; exact y0
      have y1 : wr.cell? ⟨g, o2 + j * 3 + 1, none⟩ = some (.int .i64 y.t) := by rw [World.cell?_of_block (w := w) hb]; exact y1
      have y2 : wr.cell? ⟨g, o2 + j * 3 + 2, none⟩ = some (.int .i64 y.u) := by rw [World.cell?_of_block (w := w) hb]; exact y2
      have HY := Aside.mk hy
      clear hy hb
      by_cases hk : y.k = k
      · have q : (y.k == k) = true := by simp [hk]
        have HE := Aside.mk (woL_same HY.it hk)
        go_wp2_with fail
        go_roundw
        case rel =>
          refine ⟨j + 1, m, ga, gc, rfl, by go_num, hlt, by omega, ?_, ?_, K⟩
          · rw [HE.it]; exact ⟨hm.it⟩
          · rw [HE.it]; exact O
        case measure => simp [natI]; omega
      · have q : (y.k == k) = false := by simp [hk]
        have HE := Aside.mk (woL_take HY.it hk)
        have b1 : (m + 1) * 24 ≤ 140737488355328 := by omega
        have b2 : m + 1 ≤ maxLen := Nat.le_trans (show m + 1 ≤ 140737488355328 by omega) (by decide)
        have b3 : w.heap.size ≤ wr.heap.size := K.it.size
        go_wp2_with (first
          | (at_builtin; refine wpList_appendR rfl _ _ 33 rfl 41 (.agg #[.int .i64 0, .int .i64 0, .int .i64 0]) 3 24 Tryd.underlying33 info3 rfl (by decide) wr ((Keeps.refl _ _).alloc _) w.heap.size _ m _ O.it _ 1 (c3 y) (readsK_new wr 41 (c3 y)) (by simp [c3, Value.oneCell']) b1 b2 b3 rfl rfl ?_
             intro v' w' o5 k5 b5
             have K5 : Aside (Keeps Nowhere w w') := ⟨(K.it.alloc _).next k5.it (fun x e hlt => by have h1 := owns_base O.it x e; omega)⟩
             obtain ⟨p1, p2, p3, hv'⟩ := owns_shapeK o5.it
             obtain rfl : p2 = m + 1 := (by
               rcases o5.it.2 with ⟨e, h0⟩ | ⟨g, cap, cur, e, _⟩
               · exact absurd h0 (by omega)
               · rw [hv'] at e; injection e)
             subst hv')
          | fail)
        go_roundw
        case rel =>
          refine ⟨j + 1, m + 1, p1, p3, rfl, by go_num, hlt, by omega, ⟨?_⟩, ⟨?_⟩, K5⟩
          · rw [HE.it, List.length_append, hm.it]; rfl
          · rw [HE.it, r3_snoc]; exact o5.it
        case measure => simp [natI]; omega
set_option maxHeartbeats 2000000 in
theorem alikeD (ha : Rd3 w va L) (hb : Rd3 w vb M) :
    Calls Tryd.prog 15 #[va, vb] w fun e w' => e = .returned (.bool (decide (L.map q3 = M.map q3))) ∧ ∃ m, w' = w.drewN m := by
  obtain ⟨qa, ca, rfl, hla, hma, ra⟩ := ha
  obtain ⟨qb, cb, rfl, hlb, hmb, rb⟩ := hb
  have RA := Aside.mk ra
  have RB := Aside.mk rb
  have mx : maxLen ≤ 9223372036854775807 := by decide
  clear ra rb
  by_cases hn : L.length = M.length
  · have EN := Aside.mk hn
    obtain ⟨n, hln⟩ : ∃ n, L.length = n := ⟨_, rfl⟩
    have HL := Aside.mk hln
    have hmn : M.length = n := by omega
    rw [hln] at hla
    rw [hmn] at hlb
    have HD : Aside (∀ b : Bool, (b = true ↔ L.map q3 = M.map q3) → decide (L.map q3 = M.map q3) = b) := ⟨fun b h => by cases b <;> simp_all⟩
    rw [hln, hmn]
    clear hn hln hmn
    generalize decide (L.map q3 = M.map q3) = D at HD ⊢
    have q1 : ((n : Int) == n) = true := by simp
    go_enter Tryd.func15, Tryd.ntmps15
    go_upto_region 4 with fail
    go_loopw [5] (fun iv wr => ∃ m d : Nat, iv = .int .i64 m ∧ m ≤ n ∧ Aside ((L.take m).map q3 = (M.take m).map q3) ∧ wr = w.drewN d) (fun iv _ => n - natI iv)
    case atStart => exact ⟨0, 0, rfl, Nat.zero_le _, ⟨rfl⟩, rfl⟩
    case round =>
      obtain ⟨m, d, rfl, hm, HE, hwr⟩ := hrel
      have HW := Aside.mk hwr
      have K : Keeps Nowhere w wr := by rw [hwr]; exact (Keeps.refl _ _).drewN _
      clear hwr
      rcases Nat.eq_or_lt_of_le hm with rfl | hlt
      · go_wp2_with fail
        go_ret
        have e := HE.it
        rw [List.take_of_length_le (by rw [HL.it]; exact Nat.le_refl _), List.take_of_length_le (by rw [← EN.it, HL.it]; exact Nat.le_refl _)] at e
        have hd := HD.it true ⟨fun _ => e, fun _ => rfl⟩
        subst hd
        exact ⟨rfl, _, HW.it⟩
      · have hlt' : (m : Int) < (n : Int) := by omega
        obtain ⟨x, hx⟩ : ∃ x, L[m]? = some x := ⟨_, List.getElem?_eq_getElem (by rw [HL.it]; exact hlt)⟩
        obtain ⟨y, hy⟩ : ∃ y, M[m]? = some y := ⟨_, List.getElem?_eq_getElem (by rw [← EN.it, HL.it]; exact hlt)⟩
        obtain ⟨g, o, rfl, x0, x1, x2⟩ := RA.it m x hx
        obtain ⟨g', o', rfl, y0, y1, y2⟩ := RB.it m y hy
        have hbl := K.block g (World.block_lt_of_cell? w _ x0) (fun x => x)
        have hbl' := K.block g' (World.block_lt_of_cell? w _ y0) (fun x => x)
        have x0 : wr.cell? ⟨g, o + m * 3, none⟩ = some (.int .i64 x.k) := by rw [World.cell?_of_block (w := w) hbl]; exact x0
        have x1 : wr.cell? ⟨g, o + m * 3 + 1, none⟩ = some (.int .i64 x.t) := by rw [World.cell?_of_block (w := w) hbl]; exact x1
        have x2 : wr.cell? ⟨g, o + m * 3 + 2, none⟩ = some (.int .i64 x.u) := by rw [World.cell?_of_block (w := w) hbl]; exact x2
        have y0 : wr.cell? ⟨g', o' + m * 3, none⟩ = some (.int .i64 y.k) := by rw [World.cell?_of_block (w := w) hbl']; exact y0
        have y1 : wr.cell? ⟨g', o' + m * 3 + 1, none⟩ = some (.int .i64 y.t) := by rw [World.cell?_of_block (w := w) hbl']; exact y1
        have y2 : wr.cell? ⟨g', o' + m * 3 + 2, none⟩ = some (.int .i64 y.u) := by rw [World.cell?_of_block (w := w) hbl']; exact y2
        have NQ := row_neq x y
        have HK := Aside.mk K
        have HX := Aside.mk (And.intro hx hy)
        clear hx hy hbl hbl' K
        by_cases hxy : q3 x = q3 y
        · rw [decide_eq_true hxy] at NQ
          go_wp2_with fail
          go_quiet (fail)
          go_wp2_with fail
          go_roundw
          case rel => exact ⟨m + 1, _, by go_num, hlt, ⟨by rw [Rx_take_snoc HX.it.1, Rx_take_snoc HX.it.2, List.map_append, List.map_append, HE.it, List.map_singleton, List.map_singleton, hxy]⟩, by rw [HW.it, World.drewN_drewN]⟩
          case measure => simp [natI]; omega
        · rw [decide_eq_false hxy] at NQ
          go_wp2_with fail
          go_quiet (fail)
          go_wp2_with fail
          go_ret
          have hd := HD.it false (by
            refine ⟨(fun h => by simp at h), fun h => ?_⟩
            have h1 : (L.map q3)[m]? = some (q3 x) := by rw [List.getElem?_map, HX.it.1]; rfl
            have h2 : (M.map q3)[m]? = some (q3 y) := by rw [List.getElem?_map, HX.it.2]; rfl
            rw [h, h2] at h1
            exact absurd (Option.some.inj h1).symm hxy)
          subst hd
          exact ⟨rfl, _, by rw [HW.it, World.drewN_drewN]⟩
  · have hd : decide (L.map q3 = M.map q3) = false := decide_eq_false fun e => hn (by have := congrArg List.length e; simpa using this)
    rw [hd]
    have q1 : ((L.length : Int) == M.length) = false := by simp; omega
    go_enter Tryd.func15, Tryd.ntmps15
    go_wp2_with fail
    go_ret
    exact ⟨rfl, 0, rfl⟩
end Go.Proofs.YthjeeianlgkaaaaDoor
