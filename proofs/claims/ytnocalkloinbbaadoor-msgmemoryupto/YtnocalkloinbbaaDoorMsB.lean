/-
  culvertref27.size: the length that stands at the beginning of bytes
-/
import Derived.Test.YtnocalkloinbbaaDoorMgP
import Derived.Test.YtnocalkloinbbaaDoorMsA
import Derived.Test.YtnocalkloinbbaaDoorRdOw
namespace Go.Proofs.YtnocalkloinbbaaDoor
open Go.RowKit

/-- what size answers -/
def SzO (most : Nat) (l : List Int) (a : Int) (k : Nat) (bad : Bool) : Prop :=
  match hdM most l with
  | none => a = 0 ∧ k = 0 ∧ bad = false
  | some none => bad = true
  | some (some (n, k')) => a = (n : Int) ∧ k = k' ∧ bad = false
theorem SzO.none_ {most : Nat} {l : List Int} (h : hdM most l = none) : SzO most l 0 0 false := by unfold SzO; rw [h]; exact ⟨rfl, rfl, rfl⟩
theorem SzO.bad_ {most : Nat} {l : List Int} {a : Int} {k : Nat} (h : hdM most l = some none) : SzO most l a k true := by unfold SzO; rw [h]
theorem SzO.good_ {most n k : Nat} {l : List Int} (h : hdM most l = some (some (n, k))) : SzO most l (n : Int) k false := by unfold SzO; rw [h]; exact ⟨rfl, rfl, rfl⟩
/-- what size answers, as an ending -/
def SzR (most : Nat) (l : List Int) (w : World) (e : Ending) (w' : World) : Prop := ∃ (a : Int) (k : Nat) (bad : Bool), e = .returned (.tuple #[.int .i64 a, .int .i64 k, .bool bad]) ∧ Aside (SzO most l a k bad) ∧ ∃ m, w' = w.drewN m
theorem SzR.mk_ {most : Nat} {l : List Int} {w w' : World} {e : Ending} (a : Int) (k : Nat) (bad : Bool) (m : Nat) (h : SzO most l a k bad) (he : e = .returned (.tuple #[.int .i64 a, .int .i64 k, .bool bad])) (hw : w' = w.drewN m) : SzR most l w e w' := ⟨a, k, bad, he, ⟨h⟩, m, hw⟩
def natZ (v : Value) : Nat := match v with | .int _ x => x.toNat | _ => 0
variable {w : World} {v : Value} {l : List Int}
theorem Rd.cellAt (h : Rd w v l) : ∃ q c, v = .slice q l.length c ∧ ∀ (k : Nat) (x : Int), l[k]? = some x → ∃ g o, q = some ⟨g, o, none⟩ ∧ w.cell? ⟨g, o + k, none⟩ = some (.int .u8 x) := by
  obtain ⟨q, c, rfl⟩ := h.shape
  refine ⟨q, c, rfl, fun k x hk => ?_⟩
  have hne : l ≠ [] := fun e => by rw [e] at hk; cases hk
  obtain ⟨g, o, c', e, _, hc⟩ := Rd.at h hne
  injection e with e
  subst e
  exact ⟨g, o, rfl, hc k _ (by unfold bv; rw [List.getElem?_map, hk]; rfl)⟩
set_option maxHeartbeats 4000000 in
theorem dSize {most : Nat} (hr : Rd w v l) (hb : AreBytes l) (hL : l.length ≤ 140737488355328) (hm : most ≤ 1048576) : Calls Tryd.prog 24 #[v, .int .i64 most] w fun e w' => SzR most l w e w' := by
  obtain ⟨q, c, rfl, HC⟩ := hr.cellAt
  have HC := Aside.mk HC
  have HB := Aside.mk hb
  have HMo := Aside.mk hm
  obtain ⟨L, hLe⟩ : ∃ L, l.length = L := ⟨_, rfl⟩
  rw [hLe] at hL ⊢
  have HL := Aside.mk hLe
  have HLb := Aside.mk hL
  clear hr hb hLe hL hm
  go_enter Tryd.func24, Tryd.ntmps24
  go_wp2_with fail
  go_loopw [7, 8, 9] (fun nv uv iv wr => ∃ (h r : List Int) (i n u : Nat), nv = .int .i64 n ∧ uv = .int .i64 u ∧ iv = .int .i64 i ∧ Aside (l = h ++ r ∧ h.length = i ∧ Part most h false [] ∧ lenOf h = n ∧ 128 ^ i = u ∧ n < 16384) ∧ i ≤ L ∧ i ≤ 2 ∧ wr = w) (fun _ _ iv _ => 3 - natZ iv)
  case atStart => exact ⟨[], l, 0, 0, 1, rfl, rfl, rfl, ⟨rfl, rfl, part_new, rfl, rfl, by omega⟩, by omega, by omega, rfl⟩
  case round =>
    obtain ⟨h, r, i, n, u, rfl, rfl, rfl, H, hiL, hi2, rfl⟩ := hrel
    have hu : u ≤ 16384 := by
      have := H.it.2.2.2.2.1
      rw [← this]
      exact Nat.pow_le_pow_right (n := 128) (by decide) hi2
    have hu1 : 1 ≤ u := by
      have := H.it.2.2.2.2.1
      rw [← this]
      exact Nat.pow_pos (by decide)
    cases r with
    | nil =>
      have e : i = L := by have := H.it.1; rw [List.append_nil] at this; rw [← H.it.2.1, ← this, HL.it]
      subst e
      clear hi2 hu hu1
      go_wp2_with fail
      go_returns
      exact SzR.mk_ 0 0 false 0 (SzO.none_ (by rw [H.it.1, List.append_nil]; exact part_none H.it.2.2.1)) rfl rfl
    | cons x r =>
      have hx : l[i]? = some x := by rw [H.it.1, List.getElem?_append_right (by rw [H.it.2.1]; exact Nat.le_refl _), H.it.2.1, Nat.sub_self]; rfl
      have hlt : i < L := by
        have := congrArg List.length H.it.1
        rw [List.length_append, H.it.2.1, List.length_cons, HL.it] at this
        omega
      obtain ⟨g, o, rfl, hcell⟩ := HC.it i x hx
      have hxb := HB.it x (List.mem_of_getElem? hx)
      have hlt' : (i : Int) < (L : Int) := by omega
      obtain ⟨z, hz⟩ : ∃ z : Nat, (x % 128).toNat = z := ⟨_, rfl⟩
      have hz1 : x % 128 = (z : Int) := by omega
      have hz2 : z < 128 := by omega
      have hzu : z * u ≤ 127 * 16384 := Nat.mul_le_mul (by omega) hu
      obtain ⟨p, hp⟩ : ∃ p : Nat, z * u = p := ⟨_, rfl⟩
      obtain ⟨n2, hn2⟩ : ∃ n2 : Nat, n + p = n2 := ⟨_, rfl⟩
      have hpi : (z : Int) * (u : Int) = (p : Int) := by rw [← hp]; simp
      rw [hp] at hzu
      have hN := H.it.2.2.2.2.2
      have hw2 : Aside (wrap64 ((n : Int) + wrap64 ((z : Int) * (u : Int))) = (n2 : Int)) := ⟨by rw [hpi, IntWalk.wrap64_in (p : Int) (by omega), IntWalk.wrap64_in _ (by omega)]; omega⟩
      have hw3 : Aside (wrap64 ((u : Int) * 128) = ((u * 128 : Nat) : Int)) := ⟨by rw [IntWalk.wrap64_in _ (by omega)]; omega⟩
      have hlen2 : lenOf (h ++ [x]) = n2 := by rw [lenOf_snoc, H.it.2.2.2.1, H.it.2.1, H.it.2.2.2.2.1, hz, hp, hn2]
      have e2 : h ++ x :: r = (h ++ [x]) ++ r := by simp
      by_cases h1 : x < 128
      · have HX := Aside.mk hx
        by_cases hgood : (x ≠ 0 ∨ h.length = 0) ∧ lenOf (h ++ [x]) ≤ most
        · have HD : Aside (hdM most l = some (some (n2, i + 1))) := ⟨by
            have := (part_last H.it.2.2.1 ⟨hxb.1, h1⟩ hgood.1 hgood.2).1
            rw [H.it.1, e2, ← hlen2, ← H.it.2.1]
            have h3 := hdM_app this r
            rw [List.length_append] at h3
            exact h3⟩
          have g1 : ¬ (most : Int) < (n2 : Int) := by have := hgood.2; rw [hlen2] at this; omega
          have g0 : Aside (x ≠ 0 ∨ i = 0) := ⟨by have := hgood.1; rw [H.it.2.1] at this; exact this⟩
          clear hgood e2 hlen2 hn2 hz hzu hp hpi hx
          have d6 : decide (most < n2) = false := decide_eq_false (by omega)
          have d8 : ¬ most < n2 := by omega
          rcases Nat.eq_zero_or_pos i with e0 | e0
          · have d7 : ¬ 0 < i := by omega
            have d5 : decide (0 < i) = false := decide_eq_false d7
            clear e0
            go_upto_region 9 with fail
            try simp only [hw2.it]
            go_quiet (fail)
            go_wp2_with fail
            go_returns
            exact SzR.mk_ n2 (i + 1) false _ (SzO.good_ HD.it) (by simp) rfl
          · have d5 : decide (0 < i) = true := decide_eq_true e0
            have g5 : (x == 0) = false := by have := g0.it; simp; omega
            go_upto_region 9 with fail
            try simp only [hw2.it]
            go_quiet (fail)
            go_wp2_with fail
            go_returns
            exact SzR.mk_ n2 (i + 1) false _ (SzO.good_ HD.it) (by simp) rfl
        · have HD : Aside (hdM most l = some none) := ⟨by rw [H.it.1]; exact hd_last H.it.2.2.1 ⟨hxb.1, h1⟩ hgood r⟩
          have hg2 : Aside ((x = 0 ∧ i ≠ 0) ∨ most < n2) := ⟨by
            rw [hlen2, H.it.2.1] at hgood
            omega⟩
          clear hgood e2 hlen2 hn2 hz hzu hp hpi hx
          by_cases g1 : (most : Int) < (n2 : Int)
          · go_upto_region 9 with fail
            try simp only [hw2.it]
            go_quiet (fail)
            go_wp2_with fail
            go_returns
            exact SzR.mk_ n2 (i + 1) true _ (SzO.bad_ HD.it) (by simp) rfl
          · have g6 : x = 0 ∧ i ≠ 0 := by have := hg2.it; omega
            have g5 : (x == 0) = true := by simp [g6.1]
            have g4 : 0 < i := by omega
            have d4 : decide (0 < i) = true := decide_eq_true g4
            have d8 : ¬ most < n2 := by omega
            have d1 : decide (most < n2) = false := decide_eq_false d8
            clear g6
            go_upto_region 9 with fail
            try simp only [hw2.it]
            go_quiet (fail)
            go_wp2_with fail
            go_returns
            exact SzR.mk_ n2 (i + 1) true _ (SzO.bad_ HD.it) (by simp) rfl
      · by_cases h2 : i = 2
        · subst h2
          have HD : Aside (hdM most l = some none) := ⟨by rw [H.it.1]; exact hd_third H.it.2.2.1 (by omega) (by rw [H.it.2.1]; omega) r⟩
          have g2 : ¬ x < 128 := h1
          clear hx e2 hlen2 hn2 hz hzu hp hpi
          go_wp2_with fail
          go_returns
          exact SzR.mk_ 0 3 true 0 (SzO.bad_ HD.it) rfl rfl
        · have g2 : ¬ x < 128 := h1
          have g3 : ((i : Int) == 2) = false := by simp; omega
          have HP : Aside (l = (h ++ [x]) ++ r ∧ (h ++ [x]).length = i + 1 ∧ Part most (h ++ [x]) false [] ∧ lenOf (h ++ [x]) = n2 ∧ 128 ^ (i + 1) = u * 128 ∧ n2 < 16384) := ⟨by
            have hp := part_high H.it.2.2.1 (c := x) ⟨by omega, by omega⟩ (by rw [H.it.2.1]; omega)
            refine ⟨by rw [H.it.1, e2], by rw [List.length_append, H.it.2.1]; rfl, hp, hlen2, by rw [Nat.pow_succ, H.it.2.2.2.2.1], ?_⟩
            have := lenOf_lt (h ++ [x])
            rw [hlen2, List.length_append, H.it.2.1] at this
            have h3 : 128 ^ (i + 1) ≤ 128 ^ 2 := Nat.pow_le_pow_right (by decide) (by omega)
            have h4 : 128 ^ (i + [x].length) = 128 ^ (i + 1) := rfl
            omega⟩
          clear hx e2 hlen2 hn2 hz hzu hp hpi
          go_wp2_with fail
          go_roundw
          case rel => exact ⟨h ++ [x], r, i + 1, n2, u * 128, by rw [hw2.it], by first | rw [hw3.it] | go_num, by go_num, HP, by omega, by omega, by trivial⟩
          case measure => simp [natZ]; omega
end Go.Proofs.YtnocalkloinbbaaDoor
