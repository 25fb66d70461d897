/-
  culvertlaw28: alike
-/
import Derived.Test.YthjeeianlgkaaaaDoorLuK
namespace Go.Proofs.YthjeeianlgkaaaaDoor
open Go.RowKit Lulnn

variable {w w' w0 W : World} {own own' : Nat → Nat} {i c o j : Nat} {room : Int} {L M : List Rx} {I : Nat → Prop} {A : Nat → Addr} {x y : Rx} {z : Oz} {v va vb : Value}

theorem Rd3.quiet (h : Rd3 w v L) (hk : Keeps Nowhere w w') : Rd3 w' v L := by
  obtain ⟨a, c, e, h1, h2, h3⟩ := h
  refine ⟨a, c, e, h1, h2, fun j x hj => ?_⟩
  obtain ⟨g, o, ea, e0, e1, e2⟩ := h3 j x hj
  have hb := hk.block g (World.block_lt_of_cell? w _ e0) (fun x => x)
  exact ⟨g, o, ea, by rw [World.cell?_of_block (w := w) hb]; exact e0, by rw [World.cell?_of_block (w := w) hb]; exact e1, by rw [World.cell?_of_block (w := w) hb]; exact e2⟩
set_option maxHeartbeats 2000000 in
theorem alike_ (ha : Rd3 w va L) (hb : Rd3 w vb M) :
    Calls Tryd.prog 15 #[va, vb] w fun e w' => e = .returned (.bool (decide (L.map q3 = M.map q3))) ∧ Aside (Keeps Nowhere w w') := by
  obtain ⟨qa, ca, rfl, hla, hma, ra⟩ := ha
  obtain ⟨qb, cb, rfl, hlb, hmb, rb⟩ := hb
  have RA := Aside.mk ra
  have RB := Aside.mk rb
  have mx : maxLen ≤ 9223372036854775807 := by decide
  clear ra rb
  by_cases hn : L.length = M.length
  · have EN := Aside.mk hn
    obtain ⟨n, hln⟩ : ∃ n, L.length = n := ⟨_, rfl⟩
    have HL := Aside.mk hln
    have hmn : M.length = n := by omega
    rw [hln] at hla
    rw [hmn] at hlb
    have HD : Aside (∀ b : Bool, (b = true ↔ L.map q3 = M.map q3) → decide (L.map q3 = M.map q3) = b) := ⟨fun b h => by cases b <;> simp_all⟩
    rw [hln, hmn]
    clear hn hln hmn
    generalize decide (L.map q3 = M.map q3) = D at HD ⊢
    have q1 : ((n : Int) == n) = true := by simp
    go_enter Tryd.func15, Tryd.ntmps15
    go_upto_region 4 with fail
    go_loopw [5] (fun iv wr => ∃ m : Nat, iv = .int .i64 m ∧ m ≤ n ∧ Aside ((L.take m).map q3 = (M.take m).map q3) ∧ Keeps Nowhere w wr) (fun iv _ => n - natI iv)
    case atStart => exact ⟨0, rfl, Nat.zero_le _, ⟨rfl⟩, Keeps.refl _ _⟩
    case round =>
      obtain ⟨m, rfl, hm, HE, K⟩ := hrel
      rcases Nat.eq_or_lt_of_le hm with rfl | hlt
      · go_wp2_with fail
        go_ret
        have e := HE.it
        rw [List.take_of_length_le (by rw [HL.it]; exact Nat.le_refl _), List.take_of_length_le (by rw [← EN.it, HL.it]; exact Nat.le_refl _)] at e
        have hd := HD.it true ⟨fun _ => e, fun _ => rfl⟩
        subst hd
        exact ⟨rfl, ⟨K⟩⟩
      · have hlt' : (m : Int) < (n : Int) := by omega
        obtain ⟨x, hx⟩ : ∃ x, L[m]? = some x := ⟨_, List.getElem?_eq_getElem (by rw [HL.it]; exact hlt)⟩
        obtain ⟨y, hy⟩ : ∃ y, M[m]? = some y := ⟨_, List.getElem?_eq_getElem (by rw [← EN.it, HL.it]; exact hlt)⟩
        obtain ⟨g, o, rfl, x0, x1, x2⟩ := RA.it m x hx
        obtain ⟨g', o', rfl, y0, y1, y2⟩ := RB.it m y hy
        have hbl := K.block g (World.block_lt_of_cell? w _ x0) (fun x => x)
        have hbl' := K.block g' (World.block_lt_of_cell? w _ y0) (fun x => x)
        have x0 : wr.cell? ⟨g, o + m * 3, none⟩ = some (.int .i64 x.k) := by rw [World.cell?_of_block (w := w) hbl]; exact x0
        have x1 : wr.cell? ⟨g, o + m * 3 + 1, none⟩ = some (.int .i64 x.t) := by rw [World.cell?_of_block (w := w) hbl]; exact x1
        have x2 : wr.cell? ⟨g, o + m * 3 + 2, none⟩ = some (.int .i64 x.u) := by rw [World.cell?_of_block (w := w) hbl]; exact x2
        have y0 : wr.cell? ⟨g', o' + m * 3, none⟩ = some (.int .i64 y.k) := by rw [World.cell?_of_block (w := w) hbl']; exact y0
        have y1 : wr.cell? ⟨g', o' + m * 3 + 1, none⟩ = some (.int .i64 y.t) := by rw [World.cell?_of_block (w := w) hbl']; exact y1
        have y2 : wr.cell? ⟨g', o' + m * 3 + 2, none⟩ = some (.int .i64 y.u) := by rw [World.cell?_of_block (w := w) hbl']; exact y2
        have NQ := row_neq x y
        have HK := Aside.mk K
        have HX := Aside.mk (And.intro hx hy)
        clear hx hy hbl hbl' K
        by_cases hxy : q3 x = q3 y
        · rw [decide_eq_true hxy] at NQ
          go_wp2_with fail
          go_quiet (fail)
          go_wp2_with fail
          go_roundw
          case rel => exact ⟨m + 1, by go_num, hlt, ⟨by rw [Rx_take_snoc HX.it.1, Rx_take_snoc HX.it.2, List.map_append, List.map_append, HE.it, List.map_singleton, List.map_singleton, hxy]⟩, HK.it.drewN _⟩
          case measure => simp [natI]; omega
        · rw [decide_eq_false hxy] at NQ
          go_wp2_with fail
          go_quiet (fail)
          go_wp2_with fail
          go_ret
          have hd := HD.it false (by
            refine ⟨(fun h => by simp at h), fun h => ?_⟩
            have h1 : (L.map q3)[m]? = some (q3 x) := by rw [List.getElem?_map, HX.it.1]; rfl
            have h2 : (M.map q3)[m]? = some (q3 y) := by rw [List.getElem?_map, HX.it.2]; rfl
            rw [h, h2] at h1
            exact absurd (Option.some.inj h1).symm hxy)
          subst hd
          exact ⟨rfl, ⟨HK.it.drewN _⟩⟩
  · have hd : decide (L.map q3 = M.map q3) = false := decide_eq_false fun e => hn (by have := congrArg List.length e; simpa using this)
    rw [hd]
    have q1 : ((L.length : Int) == M.length) = false := by simp; omega
    go_enter Tryd.func15, Tryd.ntmps15
    go_wp2_with fail
    go_ret
    exact ⟨rfl, ⟨Keeps.refl _ _⟩⟩
end Go.Proofs.YthjeeianlgkaaaaDoor
