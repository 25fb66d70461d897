/-
  IdsRise
-/
import Derived.Test.YthfedcebbnlmaaaDoorIdC
namespace Go.Proofs.YthfedcebbnlmaaaDoor
open Go.RowKit

section
variable {A : Nat → Addr}
theorem Im.next_left (x : Im) : x.next.left = x.left - 1 := by
  unfold Im.left Im.next
  simp only
  omega
theorem Im.Ok.own {x : Im} (h : x.Ok) : x.mine x.n = true := by
  have := h.n2; have := h.o01; have := h.b1; have := h.n1
  exact Im.mine_iff.2 ⟨by omega, by omega⟩
theorem Im.known_none {x : Im} {id : Int} (h0 : x.m0 = 0) (h1 : x.m1 = 0) (hid : 0 ≤ id) : x.known id = false := by
  refine Bool.eq_false_iff.2 fun h => ?_
  obtain ⟨a, b⟩ := Im.known_iff.1 h
  unfold Im.mark at b
  split at b <;> omega
set_option maxRecDepth 20000 in
set_option maxHeartbeats 2000000 in
theorem idsRise_walk {A : Nat → Addr} (c : Bool) (skip n : Int) (w : World) (hs : St14 A w) :
    Calls Tryd.prog 5 #[.bool c, .int .i64 skip, .int .i64 n] w fun e w' => e = .returned (.bool true) ∧ Below w.heap.size w w' := by
  have F := Aside.mk (fixed14 hs)
  have G0 := IdW.start hs
  clear hs
  by_cases hr : skip < 0 ∨ 2147483647 < skip
  · have HR := Aside.mk hr
    rcases hr with hr | hr
    · go_enter Tryd.func5, Tryd.ntmps5
      go_upto_region 3 with (first | (go_at_call 12; refine F.it.mono ?_; rintro e w1 ⟨rfl, b1⟩) | fail)
      have G1 := IdW.quiet G0 (Keeps.ofBelow b1.it)
      go_wp2_with (first | (go_at_call 8; refine (new14_no G1 c skip HR.it).mono ?_; rintro e w2 ⟨rfl, P2⟩) | fail)
      go_ret
      exact ⟨rfl, IdW.bel P2⟩
    · have hr2 : ¬ skip < 0 := by omega
      go_enter Tryd.func5, Tryd.ntmps5
      go_upto_region 3 with (first | (go_at_call 12; refine F.it.mono ?_; rintro e w1 ⟨rfl, b1⟩) | fail)
      have G1 := IdW.quiet G0 (Keeps.ofBelow b1.it)
      go_wp2_with (first | (go_at_call 8; refine (new14_no G1 c skip HR.it).mono ?_; rintro e w2 ⟨rfl, P2⟩) | fail)
      go_ret
      exact ⟨rfl, IdW.bel P2⟩
  · have h1 : 0 ≤ skip := by omega
    have h2 : skip ≤ 2147483647 := by omega
    clear hr
    go_enter Tryd.func5, Tryd.ntmps5
    go_upto_region 3 with (first | (go_at_call 12; refine F.it.mono ?_; rintro e w1 ⟨rfl, b1⟩) | fail)
    have G1 := IdW.quiet G0 (Keeps.ofBelow b1.it)
    go_upto_if 36 with (first | (go_at_call 8; refine (new14 G1 c skip h1 h2).mono ?_; rintro e w2 ⟨p, own2, rfl, P2⟩) | fail)
    clear F G0 G1 b1
    go_cut [9, 10] (fun a b wx => a = .int .i64 (2 - pty c) ∧ b = .int .i64 (2147483647 + pty c) ∧ wx = w2)
    case first =>
      cases c
      · go_wp2
        go_meet
        case rel => exact ⟨rfl, rfl, rfl⟩
      · go_wp2
        go_meet
        case rel => exact ⟨rfl, rfl, rfl⟩
    case rest =>
      obtain ⟨rfl, rfl, rfl⟩ := hcut
      obtain ⟨x, hx⟩ : ∃ x, x = Im.new (pty c) skip := ⟨_, rfl⟩
      have e1 : 2 - pty c + 2 * skip = x.n := by rw [hx]; rfl
      have e2 : 2147483647 + pty c - skip = x.left := by rw [hx]; unfold Im.left Im.new; simp only; omega
      have e3 : x.m0 = 0 := by rw [hx]; rfl
      have e4 : x.m1 = 0 := by rw [hx]; rfl
      have eo : 0 ≤ pty c ∧ pty c ≤ 1 := by unfold pty; split <;> omega
      have eo1 := eo.1
      have eo2 := eo.2
      rw [← hx] at P2
      have P3 : Aside (IdW A w [] [(p, x)] own2 wc) := P2
      clear P2 hx eo
      generalize pty c = o at e1 e2 eo1 eo2 ⊢
      obtain ⟨M, eM, hM⟩ : ∃ M : Int, (if 3000 < n then (3000 : Int) else n) = M ∧ M ≤ 3000 := ⟨_, rfl, by split <;> omega⟩
      go_upto_region 11 with fail
      clear e1 e2 eo1 eo2 h1 h2
      go_loopw [11, 12, 13] (fun wv lv kv wr => ∃ (k : Nat) (own : Nat → Nat) (x : Im), kv = .int .i64 k ∧ wv = .int .i64 x.n ∧ lv = .int .i64 x.left ∧ k ≤ 3000 ∧ x.m0 = 0 ∧ x.m1 = 0 ∧ Aside (IdW A w [] [(p, x)] own wr)) (fun _ _ kv _ => 3000 - (intOf kv).toNat)
      case atStart => exact ⟨0, own2, x, rfl, rfl, rfl, by omega, e3, e4, P3⟩
      case round =>
        clear P3 e3 e4
        obtain ⟨k, own, y, rfl, rfl, rfl, hk, e3, e4, HP⟩ := hrel
        have OK := Aside.mk (HP.it.ids 0 p y rfl).ok
        have LF : Aside (y.next.left = y.left - 1) := ⟨Im.next_left y⟩
        obtain ⟨n1, hn1⟩ : ∃ n1, y.n = n1 := ⟨_, rfl⟩
        obtain ⟨l1, hl1⟩ : ∃ l1, y.left = l1 := ⟨_, rfl⟩
        have HN := Aside.mk hn1
        have HL := Aside.mk hl1
        rw [hn1, hl1]
        by_cases hlt : (k : Int) < M
        · by_cases hq : n1 ≤ 4294967295
          · have hz : ¬ l1 = 0 := by rw [← hl1]; exact Im.left_pos OK.it (by rw [hn1]; exact hq)
            have hl0 : 0 ≤ l1 ∧ l1 ≤ 4294967296 := by
              have := OK.it.n3; have := OK.it.n1; have := OK.it.b1; have := OK.it.o01
              rw [← hl1]; unfold Im.left; omega
            have hn0 : 0 ≤ n1 := by
              have := OK.it.n1; have := OK.it.b1; have := OK.it.o01; omega
            have hl01 := hl0.1
            have hl02 := hl0.2
            have MI : Aside (y.next.mine n1 = true) := ⟨by rw [← hn1]; exact OK.it.own⟩
            have KN : Aside (y.next.known n1 = false) := ⟨Im.known_none (x := y.next) e3 e4 hn0⟩
            have E3 := Aside.mk e3
            have E4 := Aside.mk e4
            clear hn1 hl1 e3 e4 hl0
            go_wp2_with (first
              | (go_at_call 10; refine (left14 HP 0 l1 rfl HL.it).mono ?_; rintro e w3 ⟨rfl, P3⟩)
              | (go_at_call 11; refine (next14 P3 0 n1 rfl HN.it hq).mono ?_; rintro e w4 ⟨rfl, P4⟩)
              | (go_at_call 21; refine (mine14 P4 0 n1 true rfl hn0 MI.it).mono ?_; rintro e w5 ⟨rfl, P5⟩)
              | (go_at_call 19; refine (known14 P5 0 n1 false rfl hn0 KN.it).mono ?_; rintro e w6 ⟨rfl, P6⟩)
              | fail)
            go_roundw
            case rel => exact ⟨k + 1, own, y.next, by go_num, by rw [← HN.it]; rfl, by rw [LF.it, HL.it], by omega, E3.it, E4.it, P6⟩
            case measure => simp [intOf]; omega
          · have hz : l1 = 0 := by rw [← hl1]; exact Im.left_zero OK.it (by rw [hn1]; exact hq)
            subst hz
            have HQ := Aside.mk (show ¬ y.n ≤ 4294967295 by rw [hn1]; exact hq)
            clear hn1 hl1 hq
            go_wp2_with (first
              | (go_at_call 10; refine (left14 P4 0 0 rfl HL.it).mono ?_; rintro e w5 ⟨rfl, P5⟩)
              | (go_at_call 10; refine (left14 HP 0 0 rfl HL.it).mono ?_; rintro e w3 ⟨rfl, P3⟩)
              | (go_at_call 11; refine (next14_no P3 0 rfl (by have := HQ.it; omega)).mono ?_; rintro e w4 ⟨rfl, P4⟩; have CE := Aside.mk (code14 P4 (v := .iface 82 (.pointer (some (A 31)))) (k := 32) (hide (.mk 31 32 (by decide) (by decide) rfl))))
              | (go_at_call 9; refine CE.it.mono ?_; rintro e w' ⟨rfl, rfl⟩)
              | fail)
            go_ret
            exact ⟨rfl, IdW.bel P5⟩
        · clear hn1 hl1
          go_wp2_with (first
            | (go_at_call 10; refine (left14 HP 0 l1 rfl HL.it).mono ?_; rintro e w3 ⟨rfl, P3⟩)
            | fail)
          go_ret
          exact ⟨by simp, IdW.bel P3⟩
end
end Go.Proofs.YthfedcebbnlmaaaDoor
