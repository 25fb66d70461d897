/-
  culvertref27.Feed, whether it lives or not; Same
-/
import Derived.Test.YtnocalkloinbbaaDoorMsF
import Derived.Deep.QuietTactic
namespace Go.Proofs.YtnocalkloinbbaaDoor
open Go.RowKit

section
variable {w : World} {most : Nat} {F B : List Int}
/-- all that the document's reader was fed, up to its death -/
def fedM (most : Nat) (F B : List Int) : List Int := if (parseM most F).dead then F else F ++ B
/-- the messages that B makes whole -/
def gotM (most : Nat) (F B : List Int) : List (List Int) := if (parseM most F).dead then [] else (parseM most ((parseM most F).rest ++ B)).ms
/-- the error's number -/
def cdM (most : Nat) (F B : List Int) : Int := if (parseM most F).dead then 34 else codeM (parseM most ((parseM most F).rest ++ B))
theorem parse_rest_dead (h : (parseM most F).dead = true) : (parseM most F).rest = [] := by
  have : ∀ (j : Nat) (l : List Int), l.length ≤ j → (parseM most l).dead = true → (parseM most l).rest = [] := by
    intro j
    induction j with
    | zero =>
      intro l hj hd
      rw [List.eq_nil_of_length_eq_zero (by omega : l.length = 0)] at hd ⊢
      rw [parseM_none rfl] at hd
      cases hd
    | succ j ih =>
      intro l hj hd
      cases hh : hdM most l with
      | none => rw [parseM_none hh] at hd; cases hd
      | some x =>
        cases x with
        | none => rw [parseM_bad hh]
        | some x =>
          obtain ⟨m, k⟩ := x
          have hp := hdM_pos hh
          by_cases hl : l.length < k + m
          · rw [parseM_part hh hl] at hd; cases hd
          · rw [parseM_more hh (by omega)] at hd ⊢
            exact ih (l.drop (k + m)) (by simp; omega) hd
  exact this F.length F (Nat.le_refl _) h
/-- what the bytes so far say, behind one piece more -/
theorem fedM_next (F B : List Int) : parseM most (fedM most F B) = ⟨(parseM most F).ms ++ gotM most F B, if (parseM most F).dead then [] else (parseM most ((parseM most F).rest ++ B)).rest, if (parseM most F).dead then true else (parseM most ((parseM most F).rest ++ B)).dead⟩ := by
  unfold fedM gotM
  cases hd : (parseM most F).dead with
  | true =>
    have := parse_rest_dead hd
    simp only [if_true, List.append_nil]
    cases hp : parseM most F with
    | mk ms rest dead => rw [hp] at hd this; simp only at hd this; rw [hd, this]
  | false =>
    simp only [Bool.false_eq_true, if_false]
    exact parseM_app F B hd
theorem fedM_len (F B : List Int) : (fedM most F B).length ≤ F.length + B.length := by
  unfold fedM
  split
  · omega
  · rw [List.length_append]; omega
theorem fedM_bytes (h1 : AreBytes F) (h2 : AreBytes B) : AreBytes (fedM most F B) := by
  unfold fedM
  split
  · exact h1
  · exact fun x hx => (List.mem_append.1 hx).elim (h1 x) (h2 x)
theorem refFeed27_any (q : Option Addr) (L c : Nat) (R : Rd w (.slice q L c) F) (hb : AreBytes F) (ba : Option Addr) (bl bc : Nat) (RB : Rd w (.slice ba bl bc) B) (hbb : AreBytes B) (hL : F.length + B.length ≤ 16777216) (hm : most ≤ 1048576) :
    Calls Tryd.prog 7 #[.agg #[.int .i64 most, .slice q L c], .slice ba bl bc] w fun e w' => ∃ q' L' c' fq' fl' fc', e = .returned (.tuple #[.agg #[.int .i64 most, .slice q' L' c'], .slice fq' fl' fc', .int .i64 (cdM most F B)]) ∧ Aside (Rd w' (.slice q' L' c') (fedM most F B) ∧ ((∀ g o l c, Value.slice q' L' c' = .slice (some ⟨g, o, none⟩) l c → w.heap.size ≤ g) ∨ Value.slice q' L' c' = .slice q L c)) ∧ Aside (MsgsN w.heap.size w' (.slice fq' fl' fc') (gotM most F B)) ∧ Aside (Below w.heap.size w w') := by
  unfold cdM fedM gotM
  cases hd : (parseM most F).dead with
  | false =>
    refine (refFeed27_live q L c R hb ba bl bc B RB hbb hL hm hd).mono ?_
    rintro e w' ⟨q', L', c', fq', fl', fc', rfl, X1, X2, X3⟩
    have e2 := parseM_app F B hd
    refine ⟨q', L', c', fq', fl', fc', ?_, ⟨X1.it.1, .inl X1.it.2⟩, ⟨?_⟩, X3⟩
    · rw [e2]; rfl
    · have := X2.it
      rw [e2] at this
      simpa using this
  | true =>
    refine (refFeed27_dead q L c R hb (by omega) hm hd _).mono ?_
    rintro e w' ⟨rfl, X3⟩
    exact ⟨q, L, c, none, 0, 0, rfl, ⟨R.later X3.it, .inr rfl⟩, ⟨RdL.nil _ _ _⟩, X3⟩
end
section
variable {w : World} {va vb : Value} {X Y : List (List Int)} {own own' : Nat → Nat} {d d' : Nat}
def natS (v : Value) : Nat := match v with | .int _ x => x.toNat | _ => 0
theorem take_succ_eq {X Y : List (List Int)} {i : Nat} {x y : List Int} (h : X.take i = Y.take i) (hx : X[i]? = some x) (hy : Y[i]? = some y) (e : x = y) : X.take (i + 1) = Y.take (i + 1) := by
  rw [List.take_add_one, List.take_add_one, hx, hy, h, e]
set_option maxHeartbeats 2000000 in
theorem same27 (ha : RdL own d w va X) (hb : RdL own' d' w vb Y) (hX : ∀ x ∈ X, AreBytes x) (hY : ∀ y ∈ Y, AreBytes y) (hl : X.length ≤ 16777216) (hl2 : Y.length ≤ 16777216) : Calls Tryd.prog 9 #[va, vb] w fun e w' => e = .returned (.bool (decide (X = Y))) ∧ ∃ m, w' = w.drewN m := by
  obtain ⟨qa, ca, rfl, hca, HA⟩ := RdL.at ha
  obtain ⟨qb, cb, rfl, hcb, HB⟩ := RdL.at hb
  have HA := Aside.mk HA
  have HB := Aside.mk HB
  have HX := Aside.mk hX
  have HY := Aside.mk hY
  obtain ⟨M, hM⟩ : ∃ M, X.length = M := ⟨_, rfl⟩
  obtain ⟨K, hK⟩ : ∃ K, Y.length = K := ⟨_, rfl⟩
  rw [hM] at hl ⊢
  rw [hK] at hl2 ⊢
  have HM := Aside.mk hM
  have HK := Aside.mk hK
  obtain ⟨r, hr⟩ : ∃ r, decide (X = Y) = r := ⟨_, rfl⟩
  rw [hr]
  have HR := Aside.mk hr
  clear ha hb hX hY hM hK hca hcb hr
  by_cases hlen : M = K
  · subst hlen
    have g0 : ((M : Int) != M) = false := by simp
    go_enter Tryd.func9, Tryd.ntmps9
    go_wp2_with fail
    go_loopw [5] (fun iv wr => ∃ (i m : Nat), iv = .int .i64 i ∧ i ≤ M ∧ Aside (X.take i = Y.take i) ∧ wr = w.drewN m) (fun iv _ => M - natS iv)
    case atStart => exact ⟨0, 0, rfl, Nat.zero_le _, ⟨rfl⟩, rfl⟩
    case round =>
      obtain ⟨i, m, rfl, hi, HT, rfl⟩ := hrel
      rcases Nat.eq_or_lt_of_le hi with e | hlt
      · subst e
        have hr1 : r = true := by
          rw [← HR.it]
          have := HT.it
          rw [List.take_of_length_le (by rw [HM.it]; exact Nat.le_refl _), List.take_of_length_le (by rw [HK.it]; exact Nat.le_refl _)] at this
          exact decide_eq_true this
        subst hr1
        go_wp2_with fail
        go_ret
        exact ⟨rfl, m, rfl⟩
      · obtain ⟨x, hx⟩ : ∃ x, X[i]? = some x := ⟨_, List.getElem?_eq_getElem (by rw [HM.it]; exact hlt)⟩
        obtain ⟨y, hy⟩ : ∃ y, Y[i]? = some y := ⟨_, List.getElem?_eq_getElem (by rw [HK.it]; exact hlt)⟩
        obtain ⟨ga, oa, v1, rfl, c1, r1⟩ := HA.it i x hx
        obtain ⟨gb, ob, v2, rfl, c2, r2⟩ := HB.it i y hy
        have b1 := HX.it x (List.mem_of_getElem? hx)
        have b2 := HY.it y (List.mem_of_getElem? hy)
        obtain ⟨p1, k1, rfl⟩ := r1.shape
        obtain ⟨p2, k2, rfl⟩ := r2.shape
        obtain ⟨S1, hS1⟩ : ∃ S, strOf x = S := ⟨_, rfl⟩
        obtain ⟨S2, hS2⟩ : ∃ S, strOf y = S := ⟨_, rfl⟩
        have V1 : ∀ n, (convert 29 9 (.slice p1 x.length k1)).run Tryd.prog (w.drewN n) = .ok (.string S1) (w.drewN n) := fun n => by
          rw [← hS1]
          exact run_bytesStr (P := Tryd.prog) (w.drewN n) 29 9 5 _ x Tryd.underlying29 Tryd.underlying5 Tryd.underlying9 (r1.1.later ((Keeps.refl Nowhere w).drewN n).bel).holds
        have V2 : ∀ n, (convert 29 9 (.slice p2 y.length k2)).run Tryd.prog (w.drewN n) = .ok (.string S2) (w.drewN n) := fun n => by
          rw [← hS2]
          exact run_bytesStr (P := Tryd.prog) (w.drewN n) 29 9 5 _ y Tryd.underlying29 Tryd.underlying5 Tryd.underlying9 (r2.1.later ((Keeps.refl Nowhere w).drewN n).bel).holds
        have E := strOf_beq b1 b2
        rw [hS1, hS2] at E
        have HXY := Aside.mk (And.intro hx hy)
        generalize x.length = lx at c1 V1
        generalize y.length = ly at c2 V2
        have hlt' : (i : Int) < (M : Int) := by omega
        by_cases hxy : x = y
        · have hT := Aside.mk (take_succ_eq HT.it hx hy hxy)
          subst hxy
          obtain rfl : S1 = S2 := hS1.symm.trans hS2
          clear E hS1 hS2 b1 b2 r1 r2 hx hy
          go_upto_region 6 with fail
          go_quiet (fail)
          go_wp2_with fail
          go_roundw
          case rel => exact ⟨i + 1, _, by go_num, by omega, hT, rfl⟩
          case measure => simp [natS]; omega
        · have hr0 : r = false := by
            rw [← HR.it]
            exact decide_eq_false (fun e => hxy (by rw [e, hy] at hx; injection hx with hx; exact hx.symm))
          subst hr0
          rw [decide_eq_false hxy] at E
          clear hS1 hS2 b1 b2 r1 r2 hx hy hxy
          go_upto_region 6 with fail
          go_quiet (fail)
          go_wp2_with fail
          go_ret
          exact ⟨rfl, m + nq, by simp [World.drewN, Nat.add_assoc]⟩
  · have hr0 : r = false := by
      rw [← HR.it]
      exact decide_eq_false (fun e => hlen (by rw [← HM.it, ← HK.it, e]))
    subst hr0
    have g0 : ((M : Int) != K) = true := by simp; omega
    have g1 : (M != K) = true := by simp; omega
    go_enter Tryd.func9, Tryd.ntmps9
    go_wp2_with fail
    go_ret
    exact ⟨rfl, 0, rfl⟩
end
end Go.Proofs.YtnocalkloinbbaaDoor
