/-
  lists of slices of bytes, read whoever owns them; Same over them
-/
import Derived.Test.YtllioaclnkkhhaaDoorMhC
namespace Go.Proofs.YtllioaclnkkhhaaDoor
open Go.RowKit

section
variable {w w' W : World} {va vb v : Value} {X Y rs : List (List Int)} {r : List Int} {own own' : Nat → Nat} {d d' d2 : Nat}
/-- slices' values and what each reads -/
def EachR (w : World) : List Value → List (List Int) → Prop
  | [], [] => True
  | v :: vs, r :: rs => Rd w v r ∧ EachR w vs rs
  | _, _ => False
theorem EachR.len {vs : List Value} (h : EachR w vs rs) : vs.length = rs.length := by
  induction vs generalizing rs with
  | nil => cases rs with
    | nil => rfl
    | cons => exact h.elim
  | cons v vs ih => cases rs with
    | nil => exact h.elim
    | cons r rs => simp [ih h.2]
theorem EachR.at {vs : List Value} (h : EachR w vs rs) {k : Nat} (hk : rs[k]? = some r) : ∃ v, vs[k]? = some v ∧ Rd w v r := by
  induction vs generalizing rs k with
  | nil => cases rs with
    | nil => cases hk
    | cons => exact h.elim
  | cons v vs ih => cases rs with
    | nil => cases hk
    | cons r' rs => cases k with
      | zero => simp only [List.getElem?_cons_zero, Option.some.injEq] at hk; subst hk; exact ⟨v, rfl, h.1⟩
      | succ k =>
        obtain ⟨u, h1, h2⟩ := ih h.2 (by simpa using hk)
        exact ⟨u, by simpa using h1, h2⟩
theorem EachR.later {vs : List Value} (h : EachR w vs rs) (hb : Below w.heap.size w w') : EachR w' vs rs := by
  induction vs generalizing rs with
  | nil => cases rs with
    | nil => trivial
    | cons => exact h.elim
  | cons v vs ih => cases rs with
    | nil => exact h.elim
    | cons r rs => exact ⟨h.1.later hb, ih h.2⟩
theorem EachR.snoc {vs : List Value} (h : EachR w vs rs) (hv : Rd w v r) : EachR w (vs ++ [v]) (rs ++ [r]) := by
  induction vs generalizing rs with
  | nil => cases rs with
    | nil => exact ⟨hv, trivial⟩
    | cons => exact h.elim
  | cons v vs ih => cases rs with
    | nil => exact h.elim
    | cons r rs => exact ⟨h.1, ih h.2⟩
theorem Each.rdR {vs : List Value} (h : Each own d w vs rs) : EachR w vs rs := by
  induction vs generalizing rs with
  | nil => cases rs with
    | nil => trivial
    | cons => exact h.elim
  | cons v vs ih => cases rs with
    | nil => exact h.elim
    | cons r rs => exact ⟨h.1.1, ih h.2⟩
/-- a [][]byte that is read -/
def RdR (w : World) (fv : Value) (rs : List (List Int)) : Prop := ∃ vs, ReadsOff Nowhere w fv vs ∧ EachR w vs rs
theorem RowL.rdR (h : RowL own d d2 w v rs) : RdR w v rs := by
  obtain ⟨vs, h1, _, h3, _⟩ := h
  exact ⟨vs, (owns_reads h1).1.mono (fun _ x _ => x.elim), h3.rdR⟩
theorem RdR.at (h : RdR w v rs) : ∃ a c, v = .slice a rs.length c ∧ rs.length ≤ c ∧ ∀ (k : Nat) (r : List Int), rs[k]? = some r → ∃ g o v, a = some ⟨g, o, none⟩ ∧ w.cell? ⟨g, o + k, none⟩ = some v ∧ Rd w v r := by
  obtain ⟨vs, ⟨a, c, rfl, hl, hc⟩, h4⟩ := h
  rw [h4.len] at hl ⊢
  refine ⟨a, c, rfl, hl, fun k r hk => ?_⟩
  obtain ⟨v, hv, hr⟩ := h4.at hk
  obtain ⟨x, rfl, _, hce⟩ := hc k v hv
  have hs : x.spot = none := by
    cases vs with
    | nil => simp at hv
    | cons u us =>
      obtain ⟨y, hy, _, hy2⟩ := hc 0 u rfl
      cases hy
      exact cell_spot hy2
  obtain ⟨g, o, sp⟩ := x
  simp only at hs
  subst hs
  rw [add_none] at hce
  exact ⟨g, o, v, rfl, hce, hr⟩
set_option maxHeartbeats 2000000 in
theorem same27R (ha : RdR w va X) (hb : RdR w vb Y) (hX : ∀ x ∈ X, AreBytes x) (hY : ∀ y ∈ Y, AreBytes y) (hl : X.length ≤ 16777216) (hl2 : Y.length ≤ 16777216) : Calls Tryd.prog 17 #[va, vb] w fun e w' => e = .returned (.bool (decide (X = Y))) ∧ ∃ m, w' = w.drewN m := by
  obtain ⟨qa, ca, rfl, hca, HA⟩ := RdR.at ha
  obtain ⟨qb, cb, rfl, hcb, HB⟩ := RdR.at hb
  have HA := Aside.mk HA
  have HB := Aside.mk HB
  have HX := Aside.mk hX
  have HY := Aside.mk hY
  obtain ⟨M, hM⟩ : ∃ M, X.length = M := ⟨_, rfl⟩
  obtain ⟨K, hK⟩ : ∃ K, Y.length = K := ⟨_, rfl⟩
  rw [hM] at hl ⊢
  rw [hK] at hl2 ⊢
  have HM := Aside.mk hM
  have HK := Aside.mk hK
  obtain ⟨r, hr⟩ : ∃ r, decide (X = Y) = r := ⟨_, rfl⟩
  rw [hr]
  have HR := Aside.mk hr
  clear ha hb hX hY hM hK hca hcb hr
  by_cases hlen : M = K
  · subst hlen
    have g0 : ((M : Int) != M) = false := by simp
    go_enter Tryd.func17, Tryd.ntmps17
    go_wp2_with fail
    go_loopw [5] (fun iv wr => ∃ (i m : Nat), iv = .int .i64 i ∧ i ≤ M ∧ Aside (X.take i = Y.take i) ∧ wr = w.drewN m) (fun iv _ => M - natS iv)
    case atStart => exact ⟨0, 0, rfl, Nat.zero_le _, ⟨rfl⟩, rfl⟩
    case round =>
      obtain ⟨i, m, rfl, hi, HT, rfl⟩ := hrel
      rcases Nat.eq_or_lt_of_le hi with e | hlt
      · subst e
        have hr1 : r = true := by
          rw [← HR.it]
          have := HT.it
          rw [List.take_of_length_le (by rw [HM.it]; exact Nat.le_refl _), List.take_of_length_le (by rw [HK.it]; exact Nat.le_refl _)] at this
          exact decide_eq_true this
        subst hr1
        go_wp2_with fail
        go_ret
        exact ⟨rfl, m, rfl⟩
      · obtain ⟨x, hx⟩ : ∃ x, X[i]? = some x := ⟨_, List.getElem?_eq_getElem (by rw [HM.it]; exact hlt)⟩
        obtain ⟨y, hy⟩ : ∃ y, Y[i]? = some y := ⟨_, List.getElem?_eq_getElem (by rw [HK.it]; exact hlt)⟩
        obtain ⟨ga, oa, v1, rfl, c1, r1⟩ := HA.it i x hx
        obtain ⟨gb, ob, v2, rfl, c2, r2⟩ := HB.it i y hy
        have b1 := HX.it x (List.mem_of_getElem? hx)
        have b2 := HY.it y (List.mem_of_getElem? hy)
        obtain ⟨p1, k1, rfl⟩ := r1.shape
        obtain ⟨p2, k2, rfl⟩ := r2.shape
        obtain ⟨S1, hS1⟩ : ∃ S, strOf x = S := ⟨_, rfl⟩
        obtain ⟨S2, hS2⟩ : ∃ S, strOf y = S := ⟨_, rfl⟩
        have V1 : ∀ n, (convert 28 9 (.slice p1 x.length k1)).run Tryd.prog (w.drewN n) = .ok (.string S1) (w.drewN n) := fun n => by
          rw [← hS1]
          exact run_bytesStr (P := Tryd.prog) (w.drewN n) 28 9 5 _ x Tryd.underlying28 Tryd.underlying5 Tryd.underlying9 (r1.later ((Keeps.refl Nowhere w).drewN n).bel).holds
        have V2 : ∀ n, (convert 28 9 (.slice p2 y.length k2)).run Tryd.prog (w.drewN n) = .ok (.string S2) (w.drewN n) := fun n => by
          rw [← hS2]
          exact run_bytesStr (P := Tryd.prog) (w.drewN n) 28 9 5 _ y Tryd.underlying28 Tryd.underlying5 Tryd.underlying9 (r2.later ((Keeps.refl Nowhere w).drewN n).bel).holds
        have E := strOf_beq b1 b2
        rw [hS1, hS2] at E
        have HXY := Aside.mk (And.intro hx hy)
        generalize x.length = lx at c1 V1
        generalize y.length = ly at c2 V2
        have hlt' : (i : Int) < (M : Int) := by omega
        by_cases hxy : x = y
        · have hT := Aside.mk (take_succ_eq HT.it hx hy hxy)
          subst hxy
          obtain rfl : S1 = S2 := hS1.symm.trans hS2
          clear E hS1 hS2 b1 b2 r1 r2 hx hy
          go_upto_region 6 with fail
          go_quiet (fail)
          go_wp2_with fail
          go_roundw
          case rel => exact ⟨i + 1, _, by go_num, by omega, hT, rfl⟩
          case measure => simp [natS]; omega
        · have hr0 : r = false := by
            rw [← HR.it]
            exact decide_eq_false (fun e => hxy (by rw [e, hy] at hx; injection hx with hx; exact hx.symm))
          subst hr0
          rw [decide_eq_false hxy] at E
          clear hS1 hS2 b1 b2 r1 r2 hx hy hxy
          go_upto_region 6 with fail
          go_quiet (fail)
          go_wp2_with fail
          go_ret
          exact ⟨rfl, m + nq, by simp [World.drewN, Nat.add_assoc]⟩
  · have hr0 : r = false := by
      rw [← HR.it]
      exact decide_eq_false (fun e => hlen (by rw [← HM.it, ← HK.it, e]))
    subst hr0
    have g0 : ((M : Int) != K) = true := by simp; omega
    have g1 : (M != K) = true := by simp; omega
    go_enter Tryd.func17, Tryd.ntmps17
    go_wp2_with fail
    go_ret
    exact ⟨rfl, 0, rfl⟩
end
end Go.Proofs.YtllioaclnkkhhaaDoor
