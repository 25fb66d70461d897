/-
  RobinPlays
-/
import Derived.Test.YtekokdfajbajoaaSt12
import Derived.Test.YtekokdfajbajoaaRbW
import Derived.Test.YtekokdfajbajoaaOpenR
namespace Go.Proofs.Ytekokdfajbajoaa
open Go.RowKit

variable {w w' : World} {own own' : Nat → Nat} {i r : Nat} {ks ys zs : List Int} {v v' : Value}

theorem Rw.new (h : Rbint.RbO own i w r []) : Rw own i w r [] (.slice none 0 0) [] :=
  ⟨h, ⟨none, 0, rfl, Nat.le_refl _, Nat.zero_le _, fun k z hz => by simp at hz⟩, fun b hb => by cases hb⟩
theorem Rw.shape (h : Rw own i w r ks v ys) : ∃ a c, v = .slice a ys.length c := by obtain ⟨a, c, e, _⟩ := h.li.shape; exact ⟨a, c, e⟩
/-- List and sameInts: they are alike -/
theorem Rw.lists (h : Rw own i w r ks v ks) (hm : ks.length * 8 ≤ 140737488355328) : Calls Try.prog 11 #[ptr r] w fun e w' => ∃ u, e = .returned u ∧ Aside (Keeps Nowhere w w' ∧ ∀ W, Keeps Nowhere w' W → Calls Try.prog 10 #[u, v] W fun e w'' => e = .returned (.bool true) ∧ Keeps Nowhere W w'') := by
  refine (Rbint.listO own (i + 1) h.rb hm).mono ?_
  rintro e w' ⟨u, rfl, L, _⟩
  refine ⟨u, rfl, L.it.1, fun W hk => ?_⟩
  exact same12 ((row_rdI L.it.2.1 (by unfold maxLen; omega) (RbO_ky h.rb)).quiet hk) ((h.quiet L.it.1).quiet hk).li

theorem op_at {zs : List OpV12} {sa : Option Addr} {m : Nat} {wr : World} (hat : ∀ i z, zs[i]? = some z → ∃ b o cs, sa = some ⟨b, o, none⟩ ∧ Op12Ok z cs ∧ cs.length = 2 ∧ ∀ j, j < 2 → w.cell? ⟨b, o + i * 2 + j, none⟩ = cs[j]?) (hm : m < zs.length) (hb : Below w.heap.size w wr) :
    ∃ (b o : Nat) (kind k : Int), sa = some ⟨b, o, none⟩ ∧ (-9223372036854775808 ≤ k ∧ k ≤ 9223372036854775807) ∧ wr.cell? ⟨b, o + m * 2, none⟩ = some (.int .i64 kind) ∧ wr.cell? ⟨b, o + m * 2 + 1, none⟩ = some (.int .i64 k) := by
  obtain ⟨sb, so, cs, rfl, ⟨hcs, hk⟩, _, hc⟩ := hat m _ (List.getElem?_eq_getElem hm)
  subst hcs
  have ev0 : ∀ {q v}, w.cell? q = some v → wr.cell? q = some v := fun {q v} h => by rw [World.cell?_of_block (hb.block _ (World.block_lt_of_cell? w _ h))]; exact h
  exact ⟨sb, so, _, _, rfl, hk, ev0 (hc 0 (by decide)), ev0 (hc 1 (by decide))⟩
set_option maxHeartbeats 4000000 in
set_option maxRecDepth 20000 in
theorem robinPlays_walk (v : Value) (zs : List OpV12) (w : World) (hz : Ops12Arg w v zs) : Calls Try.prog 3 #[v] w fun e w' => e = .returned (.bool true) ∧ Below w.heap.size w w' := by
  obtain ⟨hz, hzb⟩ := hz
  obtain ⟨sa, cap, rfl, hlc, hcm, hat⟩ := hz
  have HAT := Aside.mk hat
  obtain ⟨M, hM⟩ : ∃ M, M = zs.length := ⟨_, rfl⟩
  rw [← hM] at hlc hzb ⊢
  have HM := Aside.mk hM
  have hMb : M ≤ 8796093021952 := by omega
  have WK := Aside.mk (wakes12 w)
  clear hM hcm hzb hat
  go_enter Try.func3, Try.ntmps3
  go_upto_region 4 with (first
    | (go_at_call 7; refine WK.it.mono ?_; clear WK; rintro e w1 ⟨rfl, K1⟩; have NW := Aside.mk (Rbint.newO (fun _ => 0) 1 w1))
    | (go_at_call 8; refine NW.it.mono ?_; clear NW; rintro e w2 ⟨r, rfl, R2⟩)
    | fail)
  have X2 : Aside (Ground w.heap.size w (give (fun _ => 0) w1.heap.size 1) w2 ∧ Rw (give (fun _ => 0) w1.heap.size 1) 1 w2 r [] (.slice none 0 0) []) := ⟨by
    have g1 : Ground w.heap.size w (fun _ => 0) w1 := ⟨fun _ _ => rfl, K1.it, K1.it.size⟩
    exact g1.step (R2.it.1.any (S := fun _ => 0 = 1)) (by decide) 1, Rw.new R2.it.2⟩
  generalize give (fun _ => 0) w1.heap.size 1 = own2 at X2
  clear R2 K1
  go_wp2_with fail
  go_loopw [4, 5] (fun lv iv wr => ∃ (m : Nat) (ks : List Int) (own : Nat → Nat) (qa : Option Addr) (qc : Nat), lv = .slice qa ks.length qc ∧ iv = .int .i64 m ∧ m ≤ M ∧ ks.length ≤ m ∧ Aside (Ground w.heap.size w own wr ∧ Rw own 1 wr r ks (.slice qa ks.length qc) ks)) (fun _ iv _ => M - (intOf iv).toNat)
  case atStart => exact ⟨0, [], own2, none, 0, rfl, rfl, Nat.zero_le _, Nat.le_refl _, X2⟩
  case round =>
    clear X2
    obtain ⟨m, ks, own, qa, qc, rfl, rfl, hm, hkm, X⟩ := hrel
    by_cases hlt : m < M
    · have hlt' : (m : Int) < (M : Int) := by omega
      obtain ⟨o, ho⟩ : ∃ o, zs[m]? = some o := ⟨_, List.getElem?_eq_getElem (by have := HM.it; omega)⟩
      obtain ⟨sb, so, cs, rfl, ⟨hcs, hb⟩, _, hc⟩ := HAT.it m o ho
      subst hcs
      have hbel := X.it.1.bel
      have ev0 : ∀ {q v}, w.cell? q = some v → wr.cell? q = some v := fun {q v} h => by rw [World.cell?_of_block (hbel.block _ (World.block_lt_of_cell? w _ h))]; exact h
      have r0 := hc 0 (by decide)
      have r1 := hc 1 (by decide)
      simp only [List.getElem?_cons_zero, List.getElem?_cons_succ, Nat.add_zero] at r0 r1
      replace r0 := ev0 r0
      replace r1 := ev0 r1
      obtain ⟨kind, k⟩ := o
      have SP := Aside.mk (step12 kind k hb X.it.2 (by omega))
      have G := Aside.mk X.it.1
      have LE := Aside.mk (stepL_len kind k ks)
      clear ev0 hc hbel ho HAT X hb
      simp only at r0 r1
      go_upto_region 9 with (first | (go_at_call 9; refine SP.it.mono ?_; clear SP; rintro e w3 ⟨v3, own3, rfl, X3⟩) | fail)
      obtain ⟨a3, c3, e3⟩ := X3.it.2.shape
      subst e3
      go_wp2_with fail
      refine ⟨⟨m + 1, _, own3, a3, c3, rfl, by go_num, by omega, by have := LE.it; omega, ⟨?_, X3.it.2⟩⟩, by simp [intOf]; omega⟩
      exact G.it.sn X3.it.1 (by unfold In2; omega)
    · obtain rfl : m = M := by omega
      have LS := Aside.mk (X.it.2.lists (by omega))
      go_wp2_with (first
        | (go_at_call 11; refine LS.it.mono ?_; clear LS; rintro e w3 ⟨u, rfl, L3⟩; have X3 := Aside.mk (And.intro (X.it.1.quiet L3.it.1) (X.it.2.quiet L3.it.1)); clear X)
        | (go_at_call 10; have _u := L3; clear _u; refine (L3.it.2 _ (Keeps.refl _ _)).mono ?_; clear L3; rintro e w4 ⟨rfl, k4⟩; have X4 := Aside.mk (And.intro (X3.it.1.quiet k4) (X3.it.2.quiet k4)); clear X3 k4; have LN := Aside.mk (Rbint.lenO X4.it.2.rb))
        | (go_at_call 12; have _u := LN; clear _u; refine LN.it.mono ?_; clear LN; rintro e w5 ⟨rfl, rfl⟩)
        | fail)
      go_ret
      exact ⟨rfl, X4.it.1.bel⟩
end Go.Proofs.Ytekokdfajbajoaa
